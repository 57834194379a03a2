import PyProof.Rows.All
import Wide.All
import OpenK.AllK
import Wide.FinOn
import Lean
import PyProof.EqAt
import PyProof.EqKinds
import PyProof.TupleCall
import KE.LcSums
import KE.KIntText
import KE.IntTextLaws
import KE.KRevIter
import PyProof.NeKinds
import PyProof.Rows.Range3
import KE.KMinKey
import PyProof.Draws
import PyProof.EnumMake
import PyProof.Rows.EnumRows
import KE.KCount
import PyProof.IsiH_list
import PySem.Challenge.RW_liftcourt_k69_heaps
-- CHANGE: your row's module here, as the last of these rows
set_option Elab.async false
set_option linter.all false
set_option maxRecDepth 100000
/-! THE HAND LAYER, for ints, bools, texts, own classes, LISTS and tuples (index, slices, in, append, pop ..), calls, loops. Paste it whole ahead of your own text; what your proof does not reach may be deleted. -/
namespace L2
open PySem PySem.Spec PyProof.Rows

/-- a key: an int or a str -/
abbrev Key := Sum Int Str
def keyIs : Key → Value → Bool
  | .inl k, v => Value.isInt k v
  | .inr x, v => Value.isStrOf x v
def keyH (w : World) : Key → Int
  | .inl k => hashInt k
  | .inr x => hashStr w x
theorem keyIs_shape : ∀ {k : Key} {v : Value}, keyIs k v = true → (∃ i t, k = Sum.inl i ∧ v = Value.int i t) ∨ (∃ x t, k = Sum.inr x ∧ v = Value.str x t)
  | .inl i, v, h => by
    obtain ⟨t, e⟩ := Value.isInt_shape (k := i) (v := v) h
    exact .inl ⟨i, t, rfl, e⟩
  | .inr x, v, h => by
    obtain ⟨t, e⟩ := Value.isStrOf_shape (x := x) (v := v) h
    exact .inr ⟨x, t, rfl, e⟩
theorem key_ll (a b : Int) : decide ((Sum.inl a : Key) = Sum.inl b) = (a == b) := by
  by_cases e : a = b
  · subst e; simp
  · have h : ¬ (Sum.inl a : Key) = Sum.inl b := fun q => e (Sum.inl.inj q)
    rw [decide_eq_false h]
    exact (beq_eq_false_iff_ne.mpr e).symm
theorem key_rr (a b : Str) : decide ((Sum.inr a : Key) = Sum.inr b) = decide (a = b) := by
  by_cases e : a = b
  · subst e; simp
  · have h : ¬ (Sum.inr a : Key) = Sum.inr b := fun q => e (Sum.inr.inj q)
    rw [decide_eq_false h, decide_eq_false e]
theorem key_lr (a : Int) (b : Str) : decide ((Sum.inl a : Key) = Sum.inr b) = false := decide_eq_false (fun q => nomatch q)
theorem key_rl (a : Str) (b : Int) : decide ((Sum.inr a : Key) = Sum.inl b) = false := decide_eq_false (fun q => nomatch q)

def mixKind (prog : Program) (w : World) : PySem.KeyKind prog w Key where
  is := keyIs
  hash := keyH w
  inj := fun v a b ha hb => by
    rcases keyIs_shape ha with ⟨i, t, rfl, rfl⟩ | ⟨x, t, rfl, rfl⟩
    · rcases keyIs_shape hb with ⟨j, u, rfl, e⟩ | ⟨y, u, rfl, e⟩
      · injection e with e1 _; rw [e1]
      · exact nomatch e
    · rcases keyIs_shape hb with ⟨j, u, rfl, e⟩ | ⟨y, u, rfl, e⟩
      · exact nomatch e
      · injection e with e1 _; rw [e1]
  byValue := fun k v h => by
    rcases keyIs_shape h with ⟨i, t, rfl, rfl⟩ | ⟨x, t, rfl, rfl⟩ <;> rfl
  pyHash := fun hv h => by
    rcases keyIs_shape hv with ⟨i, t, rfl, rfl⟩ | ⟨x, t, rfl, rfl⟩
    · exact wpAny_pyHash_int h
    · exact wpAny_pyHash_str h
  eqBool := fun hu hv h => by
    rcases keyIs_shape hu with ⟨i, t, rfl, rfl⟩ | ⟨x, t, rfl, rfl⟩
    · rcases keyIs_shape hv with ⟨j, u, rfl, rfl⟩ | ⟨y, u, rfl, rfl⟩
      · rw [key_ll] at h; exact wpAny_eqBool_int h
      · rw [key_lr] at h; exact SeqAt.EqAt.int_str i t y u _ _ _ _ h
    · rcases keyIs_shape hv with ⟨j, u, rfl, rfl⟩ | ⟨y, u, rfl, rfl⟩
      · rw [key_rl] at h; exact SeqAt.EqAt.str_int x t j u _ _ _ _ h
      · rw [key_rr] at h; exact wpAny_eqBool_str h
  «strs» := fun k x t v h => by
    rcases keyIs_shape h with ⟨i, u, rfl, e⟩ | ⟨y, u, rfl, e⟩
    · exact nomatch e
    · injection e with e1 _
      subst e1
      cases v <;> rfl

end L2

namespace L2
open PySem PySem.Spec PyProof.Rows

/-- a value, without the heap -/
inductive V where
  | non | bl (b : Bool) | int (i : Int) | str (x : Str) | byt (b : Array UInt8) | flt (b : UInt64) | ref (a : Addr) | ty (n : String)
  deriving DecidableEq

def RelV : V → Value → Prop
  | .non, u => u = Value.none
  | .bl b, u => u = Value.bool b
  | .int i, u => ∃ t, u = Value.int i t
  | .str x, u => ∃ t, u = Value.str x t
  | .byt b, u => ∃ t, u = Value.bytes b t
  | .flt b, u => ∃ t, u = Value.float b t
  | .ref a, u => u = Value.ref a
  | .ty n, u => u = Value.type n

abbrev Vals : List V → List Value → Prop := Paired RelV
theorem Vals.length {xs : List V} {us : List Value} (r : Vals xs us) : xs.length = us.length := Paired.length r
theorem Vals.get : ∀ {xs : List V} {us : List Value} {i : Nat} {x : V}, Vals xs us → xs[i]? = some x → ∃ u, us[i]? = some u ∧ RelV x u
  | _, _, _, _, .nil, e => by simp at e
  | _, _, 0, _, .cons r _, e => by simp at e; subst e; exact ⟨_, rfl, r⟩
  | _, _, i + 1, x, .cons _ t, e => by
    obtain ⟨u, h1, h2⟩ := Vals.get (i := i) (x := x) t (by simpa using e)
    exact ⟨u, by simpa using h1, h2⟩
theorem Vals.set {x : V} {u : Value} (r : RelV x u) : ∀ {xs : List V} {us : List Value} (i : Nat), Vals xs us → Vals (xs.set i x) (us.set i u)
  | _, _, _, .nil => .nil
  | _, _, 0, .cons _ t => .cons r t
  | _, _, i + 1, .cons q t => .cons q (Vals.set r i t)
theorem Vals.append : ∀ {xs ys : List V} {us ws : List Value}, Vals xs us → Vals ys ws → Vals (xs ++ ys) (us ++ ws)
  | _, _, _, _, .nil, s => s
  | _, _, _, _, .cons r t, s => .cons r (Vals.append t s)
def RelO : Option V → Option Value → Prop
  | some v, some u => RelV v u
  | none, none => True
  | _, _ => False
def KV {κ : Type} : List (κ × V) → List (κ × Value) → Prop := Paired fun (p : κ × V) (q : κ × Value) => p.1 = q.1 ∧ RelV p.2 q.2

/-- a key of a dict (00_mix): an int or a text -/
def kV : Key → V
  | .inl i => .int i
  | .inr x => .str x

/-- what stands at a tracked address -/
inductive HO where
  /-- a list -/
  | lst (xs : List V)
  /-- a tuple (never changes) -/
  | tup (xs : List V)
  /-- a dict whose keys are ints and texts; one whose keys are tuples of ints and texts (the empty one is both) -/
  | dK (kvs : List (Key × V)) | dT (kvs : List (List Key × V))
  /-- a set of ints: its members, its size -/
  | set (S : Int → Bool) (n : Nat)
  /-- an instance of the class at C, its dict at dx, its attributes -/
  | ins (C dx : Addr) (fs : List (Str × V))
  /-- the dict of the instance at x -/
  | own (x : Addr)
  /-- the dict of an exception -/
  | xd (fs : List (Str × V))
  /-- a bound method, f of x -/
  | met (f x : Addr)
  /-- a range object lo, lo + 1, .. below hi -/
  | rng (lo hi : Int)
  /-- a thing that is known to the object (the script; a dict while a loop walks it): read, never written while it is so -/
  | frz (o : Obj) (u : HO)
  /-- a code object's table -/
  | tbl (ps : Array Value)
  /-- any other thing, by what is true of its one object (a def of one's own: SetO a S n := HO.ext fun h => ..) -/
  | ext (φ : Heap → Prop)

abbrev Hp := Addr → Option HO
def upd (H : Hp) (a : Addr) (o : HO) : Hp := fun b => if b = a then some o else H b
theorem upd_same {H : Hp} {a : Addr} {o : HO} : upd H a o a = some o := by unfold upd; rw [if_pos rfl]
theorem upd_ne {H : Hp} {a b : Addr} {o : HO} (h : b ≠ a) : upd H a o b = H b := by unfold upd; rw [if_neg h]
theorem upd_upd {H : Hp} {a : Addr} {o u : HO} : upd (upd H a o) a u = upd H a u := by
  funext b; unfold upd; split <;> rfl
/-- two objects of different content stand apart -/
theorem ne_of {H : Hp} {a b : Addr} {o u : HO} (h : H a = some o) (h' : H b = some u) (d : o ≠ u) : a ≠ b := by
  intro e; subst e; rw [h] at h'; exact d (Option.some.inj h')
theorem ne_of_none {H : Hp} {a b : Addr} {o : HO} (h : H a = some o) (h' : H b = none) : a ≠ b := by
  intro e; subst e; rw [h] at h'; cases h'

section
variable (P : Program) (w : World)
def ObjOk (H : Hp) (h : Heap) (a : Addr) : HO → Prop
  | .lst xs => xs.length ≤ sizeLine ∧ ∃ (its : List Value) (n : Nat), Vals xs its ∧ h.get? a = some { cls := .type "list", data := .seq its.toArray n }
  | .tup xs => xs.length ≤ sizeLine ∧ ∃ its : List Value, Vals xs its ∧ IsTup h a its.toArray
  | .dK kvs => kvs.length ≤ sizeLine ∧ (a == sysModules) = false ∧ ∃ vs, KV kvs vs ∧ h.DictOf (mixKind P w) a vs
  | .dT kvs => kvs.length ≤ sizeLine ∧ (a == sysModules) = false ∧ ∃ xs : List (List Key × Addr × Value),
      Paired (fun (p : List Key × V) (q : List Key × Addr × Value) => p.1 = q.1 ∧ H q.2.1 = some (.tup (p.1.map kV)) ∧ RelV p.2 q.2.2) kvs xs ∧
      ∃ o es ep, h.get? a = some o ∧ o.ExactDict ∧ o.data = .dict es ep ∧ es.toList = xs.map (entryOfKey (tupleKind (mixKind P w))) ∧ (xs.map (·.1)).Nodup
  | .set S n => h.SetOf (intKind P w) a S n
  | .ins C dx fs => H dx = some (.own a) ∧ fs.length ≤ 1000 ∧ dx ≠ a ∧ h.get? a = some (PySem.W.instObj C dx) ∧
      ∃ mA, h.Ns1 dx mA ∧ (∀ f, RelO (fs.lookup f) (mA f)) ∧ PySem.Within mA (fs.map (·.1))
  | .own _ => ∃ o, h.get? a = some o
  | .xd fs => ∃ mA, h.Ns1 a mA ∧ ∀ f, RelO (fs.lookup f) (mA f)
  | .rng lo hi => ∃ t u v, h.get? a = some { cls := .type "range", data := .fields #[.int lo t, .int hi u, .int 1 v] }
  | .frz o u => h.get? a = some o ∧ ObjOk H h a u
  | .tbl ps => h.get? a = some { cls := .none, data := .fields ps }
  | .met f x => h.get? a = some (PySem.W.methodObj (.ref f) (.ref x))
  | .ext φ => φ h ∧ (∃ o, h.get? a = some o) ∧ ∀ h1 h2 : Heap, φ h1 → (∀ o, h1.get? a = some o → h2.get? a = some o) → φ h2
/-- the abstract heap is held -/
def HOk (H : Hp) (h : Heap) : Prop := ∀ a o, H a = some o → ObjOk P w H h a o
end

section
variable {P : Program} {w : World} {H H' : Hp} {h h' : Heap} {a : Addr} {o : HO}
theorem ObjOk.lt (x : ObjOk P w H h a o) : a < h.objs.size := by
  cases o with
  | lst xs => obtain ⟨_, _, _, _, e⟩ := x; exact Heap.lt_size e
  | tup xs => obtain ⟨_, _, _, p⟩ := x; exact p.lt
  | dK kvs => obtain ⟨_, _, _, _, o, _, _, e, _⟩ := x; exact Heap.lt_size e
  | dT kvs => obtain ⟨_, _, _, _, o, _, _, e, _⟩ := x; exact Heap.lt_size e
  | set S n => obtain ⟨o, _, _, _, e, _⟩ := x; exact Heap.lt_size e
  | ins C dx fs => obtain ⟨_, _, _, e, _⟩ := x; exact Heap.lt_size e
  | own y => obtain ⟨_, e⟩ := x; exact Heap.lt_size e
  | xd fs => obtain ⟨_, ⟨_, _, _, e, _⟩, _⟩ := x; exact Heap.lt_size e
  | rng lo hi => obtain ⟨_, _, _, e⟩ := x; exact Heap.lt_size e
  | frz ob u => obtain ⟨e, _⟩ := x; exact Heap.lt_size e
  | tbl ps => exact Heap.lt_size (show h.get? a = some _ from x)
  | met f y => exact Heap.lt_size (show h.get? a = some _ from x)
  | ext φ => obtain ⟨_, ⟨_, e⟩, _⟩ := x; exact Heap.lt_size e
theorem Paired.mapP {α β : Type} {F G : α → β → Prop} : ∀ {l₁ : List α} {l₂ : List β}, Paired F l₁ l₂ → (∀ a b, F a b → G a b) → Paired G l₁ l₂
  | _, _, .nil, _ => .nil
  | _, _, .cons r t, f => .cons (f _ _ r) (Paired.mapP t f)
/-- what an object's description leans on: its own object, its own dict, the tuples -/
theorem ObjOk.stay (x : ObjOk P w H h a o) (k : ∀ b u, (b = a ∨ H b = some (.own a)) → h.get? b = some u → h'.get? b = some u)
    (ho : ∀ b, H b = some (.own a) → H' b = some (.own a)) (ht : ∀ b xs, H b = some (.tup xs) → H' b = some (.tup xs)) : ObjOk P w H' h' a o := by
  induction o with
  | lst xs => obtain ⟨z, its, n, r, e⟩ := x; exact ⟨z, its, n, r, k _ _ (.inl rfl) e⟩
  | tup xs => obtain ⟨z, its, r, ob, e, c⟩ := x; exact ⟨z, its, r, ob, k _ _ (.inl rfl) e, c⟩
  | dK kvs => obtain ⟨z, y, vs, r, ob, es, ep, e, c⟩ := x; exact ⟨z, y, vs, r, ob, es, ep, k _ _ (.inl rfl) e, c⟩
  | dT kvs =>
    obtain ⟨z, y, xs, r, ob, es, ep, e, c⟩ := x
    exact ⟨z, y, xs, Paired.mapP r fun p q z => ⟨z.1, ht _ _ z.2.1, z.2.2⟩, ob, es, ep, k _ _ (.inl rfl) e, c⟩
  | set S n => obtain ⟨ob, es, ep, t, e, c⟩ := x; exact ⟨ob, es, ep, t, k _ _ (.inl rfl) e, c⟩
  | ins C dx fs =>
    obtain ⟨d, z, ne, e, mA, ⟨od, es, ep, e2, c⟩, r⟩ := x
    exact ⟨ho _ d, z, ne, k _ _ (.inl rfl) e, mA, ⟨od, es, ep, k _ _ (.inr d) e2, c⟩, r⟩
  | own y => obtain ⟨ob, e⟩ := x; exact ⟨ob, k _ _ (.inl rfl) e⟩
  | xd fs => obtain ⟨mA, ⟨od, es, ep, e, c⟩, r⟩ := x; exact ⟨mA, ⟨od, es, ep, k _ _ (.inl rfl) e, c⟩, r⟩
  | rng lo hi => obtain ⟨t, u, v, e⟩ := x; exact ⟨t, u, v, k _ _ (.inl rfl) e⟩
  | frz ob u ih => obtain ⟨e, q⟩ := x; exact ⟨k _ _ (.inl rfl) e, ih q⟩
  | tbl ps =>
    have e : h.get? a = some { cls := .none, data := .fields ps } := x
    show h'.get? a = some { cls := .none, data := .fields ps }
    exact k a _ (.inl rfl) e
  | met f y =>
    have e : h.get? a = some (PySem.W.methodObj (.ref f) (.ref y)) := x
    show h'.get? a = some (PySem.W.methodObj (.ref f) (.ref y))
    exact k a _ (.inl rfl) e
  | ext φ => obtain ⟨p, ⟨o, e⟩, st⟩ := x; exact ⟨st _ _ p fun o q => k _ _ (.inl rfl) q, ⟨o, k _ _ (.inl rfl) e⟩, st⟩
theorem HOk.lt (x : HOk P w H h) (e : H a = some o) : a < h.objs.size := (x a o e).lt
theorem HOk.fresh (x : HOk P w H h) (e : h.objs.size ≤ a) : H a = none := by
  cases q : H a with
  | none => rfl
  | some u => exact absurd (Nat.lt_of_lt_of_le (x.lt q) e) (Nat.lt_irrefl _)
/-- every object of the heap is kept -/
theorem HOk.kept (x : HOk P w H h) (k : ∀ b u, h.get? b = some u → h'.get? b = some u) : HOk P w H h' := fun a o e =>
  (x a o e).stay (fun b u _ q => k b u q) (fun _ q => q) fun _ _ q => q
/-- a new object is laid and tracked -/
theorem HOk.laid (x : HOk P w H h) (k : ∀ b u, h.get? b = some u → h'.get? b = some u) (hp : h.objs.size ≤ a) (new : ObjOk P w (upd H a o) h' a o) : HOk P w (upd H a o) h' := fun b u e => by
  have hn := x.fresh hp
  by_cases hb : b = a
  · subst hb; rw [upd_same] at e; cases e; exact new
  · rw [upd_ne hb] at e
    exact (x b u e).stay (fun c v _ q => k c v q) (fun c q => by rw [upd_ne (ne_of_none q hn)]; exact q) fun c xs q => by rw [upd_ne (ne_of_none q hn)]; exact q
end

/-- what may be read as u: it is u, or a known u -/
def Rd (H : Hp) (a : Addr) (u : HO) : Prop := H a = some u ∨ ∃ o, H a = some (.frz o u)
theorem Rd.ok {P : Program} {w : World} {H : Hp} {h : Heap} {a : Addr} {u : HO} (r : Rd H a u) (x : HOk P w H h) : ObjOk P w H h a u := by
  rcases r with r | ⟨o, r⟩
  · exact x a u r
  · obtain ⟨_, q⟩ := x a _ r
    exact q
/-- what may be written -/
def Mut : Option HO → Prop
  | some (.lst _) => True
  | some (.dK _) => True
  | some (.dT _) => True
  | some (.set _ _) => True
  | some (.ins _ _ _) => True
  | some (.ext _) => True
  | _ => False
section
variable {P : Program} {w : World} {H : Hp} {h h' : Heap} {x e : Addr} {o' : HO}
/-- the object at e is changed: x itself, or the dict of the instance x -/
theorem HOk.write (ok : HOk P w H h) (mu : Mut (H x)) (he : e = x ∨ H e = some (.own x)) (k : ∀ b u, b ≠ e → h.get? b = some u → h'.get? b = some u) (heo : ∃ u, h'.get? e = some u)
    (new : ObjOk P w (upd H x o') h' x o') : HOk P w (upd H x o') h' := fun b u q => by
  have nown : ∀ c y, H c = some (.own y) → c ≠ x := fun c y r z => by subst z; rw [r] at mu; exact mu
  have ntup : ∀ c xs, H c = some (.tup xs) → c ≠ x := fun c xs r z => by subst z; rw [r] at mu; exact mu
  by_cases hb : b = x
  · subst hb; rw [upd_same] at q; cases q; exact new
  · rw [upd_ne hb] at q
    by_cases hbe : b = e
    · have q' : H b = some (.own x) := by
        rcases he with z | z
        · exact absurd (hbe.trans z) hb
        · rw [hbe]; exact z
      rw [q] at q'; cases q'
      obtain ⟨v, hv⟩ := heo
      exact ⟨v, by rw [hbe]; exact hv⟩
    · refine (ok b u q).stay (fun c v hc r => k c v ?_ r) (fun c r => by rw [upd_ne (nown c b r)]; exact r) fun c xs r => by rw [upd_ne (ntup c xs r)]; exact r
      rcases hc with rfl | hc
      · exact hbe
      · rintro rfl
        rcases he with z | z
        · exact nown c b hc z
        · rw [hc] at z; cases z; exact hb rfl
end

/-! ### kept unless tracked; of the frames at fs (the callers') the slots may change (an exception that passes writes there); of the records at ex (iterators) nothing is said -/
structure Un (fs ex : List Addr) (H H' : Hp) (h h' : Heap) : Prop where
  keep : ∀ b o, h.get? b = some o → H b = none → b ∉ fs → b ∉ ex → h'.get? b = some o
  slot : ∀ b o, h.get? b = some o → H b = none → b ∈ fs → b ∉ ex → ∃ sl, h'.get? b = some { o with slots := sl }
  free : ∀ b o, h.get? b = some o → H b = none → b ∉ ex → H' b = none
  there : ∀ b o, h.get? b = some o → b ∉ ex → ∃ o', h'.get? b = some o'
  tups : ∀ b xs, H b = some (.tup xs) → H' b = some (.tup xs)
  frzs : ∀ b o u, H b = some (.frz o u) → H' b = some (.frz o u)
  tbls : ∀ b ps, H b = some (.tbl ps) → ∃ more, H' b = some (.tbl (ps ++ more))
section
variable {fs fs' ex ex' : List Addr} {H H1 H2 : Hp} {h h1 h2 h' : Heap} {a x e : Addr} {o : HO}
theorem Un.any (u : Un fs ex H H1 h h1) {b : Addr} {ob : Obj} (q : h.get? b = some ob) (n : H b = none) (hx : b ∉ ex) : ∃ sl, h1.get? b = some { ob with slots := sl } := by
  by_cases hb : b ∈ fs
  · exact u.slot b ob q n hb hx
  · exact ⟨ob.slots, u.keep b ob q n hb hx⟩
theorem Un.kept (k : ∀ b u, h.get? b = some u → h'.get? b = some u) : Un fs ex H H h h' :=
  ⟨fun b ob q _ _ _ => k b ob q, fun b ob q _ _ _ => ⟨ob.slots, k b ob q⟩, fun _ _ _ n _ => n, fun b ob q _ => ⟨ob, k b ob q⟩, fun _ _ q => q, fun _ _ _ q => q, fun _ ps q => ⟨#[], by rw [q]; simp⟩⟩
theorem Un.refl : Un fs ex H H h h := Un.kept fun _ _ q => q
theorem Un.laid (k : ∀ b u, h.get? b = some u → h'.get? b = some u) (hp : h.objs.size ≤ a) (hn : H a = none) : Un fs ex H (upd H a o) h h' where
  keep := fun b u q _ _ _ => k b u q
  slot := fun b u q _ _ _ => ⟨u.slots, k b u q⟩
  free := fun b u q n _ => by rw [upd_ne (Nat.ne_of_lt (Nat.lt_of_lt_of_le (Heap.lt_size q) hp))]; exact n
  there := fun b u q _ => ⟨u, k b u q⟩
  tups := fun b xs q => by rw [upd_ne (ne_of_none q hn)]; exact q
  frzs := fun b u xs q => by rw [upd_ne (ne_of_none q hn)]; exact q
  tbls := fun b ps q => ⟨#[], by rw [upd_ne (ne_of_none q hn), q]; simp⟩
theorem Un.write (mu : Mut (H x)) (he : e = x ∨ H e = some (.own x)) (k : ∀ b u, b ≠ e → h.get? b = some u → h'.get? b = some u) (heo : ∃ u, h'.get? e = some u) : Un fs ex H (upd H x o) h h' := by
  have hx : ∀ b, H b = none → b ≠ x := fun b n z => by subst z; rw [n] at mu; exact mu
  have hb : ∀ b, H b = none → b ≠ e := fun b n z => by
    subst z
    rcases he with r | r
    · exact hx b n r
    · rw [n] at r; cases r
  have hm : ∀ b u, H b = some u → ¬ Mut (some u) → b ≠ x := fun b u q nm z => by subst z; rw [q] at mu; exact nm mu
  refine ⟨fun b u q n _ _ => k b u (hb b n) q, fun b u q n _ _ => ⟨u.slots, k b u (hb b n) q⟩, fun b u q n _ => by rw [upd_ne (hx b n)]; exact n, fun b u q _ => ?_,
    fun b xs q => by rw [upd_ne (hm b _ q fun z => z)]; exact q, fun b u xs q => by rw [upd_ne (hm b _ q fun z => z)]; exact q, fun b ps q => ⟨#[], by rw [upd_ne (hm b _ q fun z => z), q]; simp⟩⟩
  by_cases hbe : b = e
  · subst hbe; exact heo
  · exact ⟨u, k b u hbe q⟩
end

/-! ### the heap without what is tracked -/
def trk (h : Heap) (H : Hp) : List Addr := (List.range h.objs.size).filter fun a => (H a).isSome
def hidT (h : Heap) (H : Hp) : Heap := PySem.W.hideAll h (trk h H)
theorem hidT_size (h : Heap) (H : Hp) : (hidT h H).objs.size = h.objs.size := PySem.W.hideAll_size _ _
theorem hidT_get {h : Heap} {H : Hp} {b : Addr} {o : Obj} (e : h.get? b = some o) (n : H b = none) : (hidT h H).get? b = some o :=
  PySem.W.hideAll_get _ e fun hm => by
    have q : (H b).isSome = true := (List.mem_filter.mp hm).2
    rw [n] at q; simp at q
theorem of_hidT {h : Heap} {H : Hp} {b : Addr} {o : Obj} (e : (hidT h H).get? b = some o) : h.get? b = some o ∧ H b = none := by
  have e' : h.get? b = some o := PySem.W.of_hideAll (trk h H) e
  refine ⟨e', ?_⟩
  cases q : H b with
  | none => rfl
  | some x =>
    have hm : b ∈ trk h H := List.mem_filter.mpr ⟨List.mem_range.mpr (Heap.lt_size e'), by simp [q]⟩
    have z : (hidT h H).get? b = none := PySem.W.hideAll_none (trk h H) hm
    rw [z] at e; cases e

/-! ### OpenK's ledger, filled with every new object but one -/
def allNews (g h : Heap) (L : Addr) : List (Addr × Obj) := (List.range h.objs.size).filterMap fun a => if a = L ∨ (g.get? a).isSome = true then none else (h.get? a).map fun o => (a, o)
def rest (g h : Heap) (L d : Addr) : List (Addr × Obj) := (allNews g h L).filter fun p => decide (p.1 ≠ d)
end L2

namespace L2
open PySem PySem.Spec PyProof.Rows

/-- the module's facts, over the base: the heap at the law's entry without what is tracked there -/
structure Mod (K : PySem.W.Frag) (mg : Str → Option Value) (base : Heap) : Prop where
  kin : K.In base
  glob : base.Ns mainGlobals mg
  blt : ∃ mb, base.Ns builtinsNs mb ∧ ∀ x : Str, x ≠ "__name__" → mb x = bootBuiltins x
  nolimit : base.NoLimit

/-- the context: a def's body (or a comprehension's block) running. base: fixed through the whole law; s₀, H₀: the entry; outer: the frames whose slots others may change (a def's callers); stack: all frames that run;
   ex: iterators that were made ahead of the entry and are walked here (a comprehension's); fn: the names whose cells were made at the entry (a def: all; a comprehension's block: its own); calm: not within an except suite; pn: pins that every state bears; xe: what is wanted of an exception that leaves the code -/
structure Cx where
  prog : Program
  w : World
  K : PySem.W.Frag
  mg : Str → Option Value
  base : Heap
  A : Around
  N : List Str
  s₀ : Shared
  H₀ : Hp
  env : Env
  outer : List Env
  stack : List Env
  ex : List Addr
  fn : Str → Bool
  calm : Bool
  pn : List (Addr × Obj)
  xe : Value → Shared → Prop
/-- the callers' frames -/
def frs (l : List Env) : List Addr := l.filterMap (·.frame)
abbrev Cx.fs (X : Cx) : List Addr := frs X.outer

def Vis (sc : Scope) (x : Str) : Prop := sc.names.lookup x = some .local ∨ sc.names.lookup x = some .cell ∨ sc.names.lookup x = some .free
def Loc (sc : Scope) (x : Str) : Prop := sc.names.lookup x = some .local ∨ sc.names.lookup x = some .cell
def Look (env : Env) (h : Heap) (m : Str → Option Value) (x : Str) (u : Value) : Prop :=
  (env.kindOf x = some .local ∧ m x = some u) ∨ ((env.kindOf x = some .cell ∨ env.kindOf x = some .free) ∧ ∃ c, env.cells.lookup x = some c ∧ h.IsCell c (some u))

structure Cx.Ok (X : Cx) : Prop where
  mod : Mod X.K X.mg X.base
  kind : X.env.scope.kind = .function
  glob : X.env.globals = mainGlobals
  blt : X.env.builtins = builtinsNs
  above : X.s₀.heap.objs.size ≤ X.env.locals
  inj : ∀ x y c, X.env.cells.lookup x = some c → X.env.cells.lookup y = some c → x = y
  has : ∀ x, (X.env.kindOf x = some .cell ∨ X.env.kindOf x = some .free) → ∃ c, X.env.cells.lookup x = some c
  cab : ∀ x c, X.fn x = true → X.env.cells.lookup x = some c → X.s₀.heap.objs.size ≤ c
  hd : X.calm = true → X.A.handled = none
  frames : X.A.frames = some X.stack
  stk : X.stack = X.outer ∨ (X.stack = X.env :: X.outer ∧ X.env.frame = some X.env.locals)
  exf : ∀ b ∈ X.ex, b ≠ X.env.locals ∧ ∀ x c, X.env.cells.lookup x = some c → c ≠ b
  bs : ∀ b o, X.base.get? b = some o → X.s₀.heap.get? b = some o ∧ X.H₀ b = none
  bsz : X.base.objs.size ≤ X.s₀.heap.objs.size
  noex : ∀ b o, X.base.get? b = some o → b ∉ X.ex
  exfs : ∀ b ∈ X.ex, b ∉ X.fs
  funs : X.s₀.heap.FunFrames X.base X.outer
  frf : ∀ b ∈ X.fs, X.H₀ b = none

structure Inv (X : Cx) (pins : List (Addr × Obj)) (σ : List (Option V)) (H : Hp) (s : Shared) : Prop where
  ok : X.Ok
  os : s.os = X.s₀.os
  bare : AllBare s.gens
  base : Un X.fs X.ex X.H₀ H X.s₀.heap s.heap
  loc : ∃ m, s.heap.Ns X.env.locals m ∧ ∀ (i : Nat) (x : Str) (v : V), X.N[i]? = some x → σ[i]? = some (some v) → Vis X.env.scope x → ∃ u, RelV v u ∧ Look X.env s.heap m x u
  cell : ∀ x c, X.env.cells.lookup x = some c → ∃ v, s.heap.IsCell c v
  free : H X.env.locals = none
  freeC : ∀ x c, X.env.cells.lookup x = some c → H c = none
  pin : ∀ p ∈ X.pn ++ pins, s.heap.get? p.1 = some p.2 ∧ H p.1 = none ∧ p.1 ≠ X.env.locals ∧ p.1 ∉ X.fs ∧ ∀ v, p.2.data ≠ .cell v
  hok : HOk X.prog X.w H s.heap
  len : σ.length = X.N.length

section
variable {X : Cx} {pins : List (Addr × Obj)} {σ : List (Option V)} {H H' : Hp} {s : Shared} {h' : Heap}

theorem Cx.Ok.nofr (ok : X.Ok) {b : Addr} {o : Obj} (e : X.base.get? b = some o) : b ∉ X.fs := fun hb => by
  have := (ok.funs.mem hb).1
  rw [e] at this; cases this
theorem Inv.bs (I : Inv X pins σ H s) : ∀ b o, X.base.get? b = some o → s.heap.get? b = some o ∧ H b = none := fun b o e =>
  ⟨I.base.keep b o (I.ok.bs b o e).1 (I.ok.bs b o e).2 (I.ok.nofr e) (I.ok.noex b o e), I.base.free b o (I.ok.bs b o e).1 (I.ok.bs b o e).2 (I.ok.noex b o e)⟩
theorem Inv.bk (I : Inv X pins σ H s) : ∀ b o, X.base.get? b = some o → s.heap.get? b = some o := fun b o e => (I.bs b o e).1
theorem Inv.mod (I : Inv X pins σ H s) : Mod X.K X.mg X.base := I.ok.mod
theorem Inv.kIn (I : Inv X pins σ H s) : X.K.In s.heap := I.ok.mod.kin.keeps I.bk
theorem Inv.lt (I : Inv X pins σ H s) : X.env.locals < s.heap.objs.size := let ⟨_, hn, _⟩ := I.loc; hn.lt
theorem Inv.sz (I : Inv X pins σ H s) : X.s₀.heap.objs.size ≤ s.heap.objs.size := Nat.le_trans I.ok.above (Nat.le_of_lt I.lt)
theorem Inv.nofs (I : Inv X pins σ H s) {a : Addr} (h : s.heap.objs.size ≤ a) : a ∉ X.fs := fun hb => by
  obtain ⟨_, o, ho, _⟩ := I.ok.funs.mem hb
  exact absurd (Nat.lt_of_lt_of_le (Heap.lt_size ho) (Nat.le_trans I.sz h)) (Nat.lt_irrefl _)
theorem Inv.cne (I : Inv X pins σ H s) : ∀ x c, X.env.cells.lookup x = some c → c ≠ X.env.locals := fun x c e z => by
  obtain ⟨v, o, ho, hd⟩ := I.cell x c e
  obtain ⟨m, ⟨o', es, ep, ho', hd', _⟩, _⟩ := I.loc
  rw [z, ho'] at ho; cases ho; rw [hd'] at hd; cases hd
theorem Inv.funs (I : Inv X pins σ H s) : s.heap.FunFrames X.base X.outer := by
  have all : ∀ (l : List Env), (∀ b ∈ frs l, b ∈ X.fs) → X.s₀.heap.FunFrames X.base l → s.heap.FunFrames X.base l := by
    intro l
    induction l with
    | nil => intro _ _; trivial
    | cons env r ih =>
      intro hs hl
      obtain ⟨hk, ⟨L, o, hf, hn, ho, hd⟩, hr⟩ := hl
      have hL : L ∈ X.fs := hs L (by unfold frs; rw [List.filterMap_cons, hf]; exact List.mem_cons_self)
      obtain ⟨sl, e⟩ := I.base.slot L o ho (I.ok.frf L hL) hL fun z => I.ok.exfs L z hL
      exact ⟨hk, ⟨L, _, hf, hn, e, hd⟩, ih (fun b hb => hs b (by unfold frs; rw [List.filterMap_cons, hf]; exact List.mem_cons_of_mem _ hb)) hr⟩
  exact all X.outer (fun _ hb => hb) I.ok.funs

/-- the frames that run, for a call -/
theorem Inv.stack (I : Inv X pins σ H s) : s.heap.FunFrames X.base X.stack := by
  rcases I.ok.stk with e | ⟨e, hf⟩
  · rw [e]; exact I.funs
  · rw [e]
    obtain ⟨m, hn, _⟩ := I.loc
    refine .cons (by rw [I.ok.kind]; decide) hf hn ?_ I.funs
    exact Heap.get?_none_of_le (Nat.le_trans I.ok.bsz I.ok.above)
theorem Inv.stkSub (I : Inv X pins σ H s) : ∀ b ∈ frs X.stack, b ∈ X.env.locals :: X.fs := fun b hb => by
  rcases I.ok.stk with e | ⟨e, hf⟩
  · rw [e] at hb; exact List.mem_cons_of_mem _ hb
  · rw [e] at hb
    unfold frs at hb
    rw [List.filterMap_cons, hf] at hb
    exact hb
theorem Inv.stkFree (I : Inv X pins σ H s) : ∀ b ∈ frs X.stack, H b = none := fun b hb => by
  rcases List.mem_cons.mp (I.stkSub b hb) with e | hb
  · rw [e]; exact I.free
  · obtain ⟨_, o, ho, _⟩ := I.ok.funs.mem hb
    exact I.base.free b o ho (I.ok.frf b hb) fun z => I.ok.exfs b z hb

/-- THE STEP: the untracked objects but the frame and the records at ch are kept (the callers' frames up to slots), the frame's map is kept, the new abstract heap is held -/
theorem Inv.step {g' : Array GenState} {t' : Nat} {d' : Drawn} {ch : List Addr} (I : Inv X pins σ H s)
    (hch : ∀ b ∈ ch, (b ∈ X.ex ∨ X.s₀.heap.objs.size ≤ b) ∧ b ≠ X.env.locals ∧ (∀ x c, X.env.cells.lookup x = some c → c ≠ b) ∧ ∀ p ∈ X.pn ++ pins, p.1 ≠ b)
    (keep : ∀ b o, b ≠ X.env.locals → b ∉ X.fs → b ∉ ch → s.heap.get? b = some o → H b = none → h'.get? b = some o)
    (slot : ∀ b o, b ≠ X.env.locals → b ∈ X.fs → b ∉ ch → s.heap.get? b = some o → H b = none → ∃ sl, h'.get? b = some { o with slots := sl }) (free : ∀ b o, b ∉ ch → s.heap.get? b = some o → H b = none → H' b = none)
    (there : ∀ b o, b ∉ ch → s.heap.get? b = some o → ∃ o', h'.get? b = some o')
    (tups : ∀ b xs, H b = some (.tup xs) → H' b = some (.tup xs)) (frzs : ∀ b o u, H b = some (.frz o u) → H' b = some (.frz o u)) (tbls : ∀ b ps, H b = some (.tbl ps) → ∃ more, H' b = some (.tbl (ps ++ more)))
    (ns : ∀ m, s.heap.Ns X.env.locals m → h'.Ns X.env.locals m) (hok : HOk X.prog X.w H' h') (hg : AllBare g') :
    Inv X pins σ H' { s with heap := h', gens := g', drawn := d', toks := t' } := by
  have neL : ∀ b o, X.s₀.heap.get? b = some o → b ≠ X.env.locals := fun b o e => Nat.ne_of_lt (Nat.lt_of_lt_of_le (Heap.lt_size e) I.ok.above)
  have neC : ∀ b o, X.s₀.heap.get? b = some o → b ∉ X.ex → b ∉ ch := fun b o e hx hb => by
    rcases (hch b hb).1 with z | z
    · exact hx z
    · exact absurd (Nat.lt_of_lt_of_le (Heap.lt_size e) z) (Nat.lt_irrefl _)
  have cellK : ∀ x c, X.env.cells.lookup x = some c → ∀ v, s.heap.IsCell c v → h'.IsCell c v := fun x c e v ⟨o, ho, hd⟩ => by
    have nch : c ∉ ch := fun z => (hch c z).2.2.1 x c e rfl
    by_cases hc : c ∈ X.fs
    · obtain ⟨sl, q⟩ := slot c o (I.cne x c e) hc nch ho (I.freeC x c e)
      exact ⟨_, q, hd⟩
    · exact ⟨o, keep c o (I.cne x c e) hc nch ho (I.freeC x c e), hd⟩
  refine ⟨I.ok, I.os, hg, ⟨fun b o e n hb hx => ?_, fun b o e n hb hx => ?_, fun b o e n hx => ?_, fun b o e hx => ?_, fun b xs e => tups b xs (I.base.tups b xs e), fun b o xs e => frzs b o xs (I.base.frzs b o xs e), fun b ps e => ?_⟩, ?_, fun x c e => ?_, ?_, fun x c e => ?_, fun p hp => ?_, hok, I.len⟩
  · exact keep b o (neL b o e) hb (neC b o e hx) (I.base.keep b o e n hb hx) (I.base.free b o e n hx)
  · obtain ⟨sl, e1⟩ := I.base.slot b o e n hb hx
    obtain ⟨sl', e2⟩ := slot b _ (neL b o e) hb (neC b o e hx) e1 (I.base.free b o e n hx)
    exact ⟨sl', e2⟩
  · obtain ⟨o', e1⟩ := I.base.there b o e hx
    exact free b o' (neC b o e hx) e1 (I.base.free b o e n hx)
  · obtain ⟨o', e1⟩ := I.base.there b o e hx
    exact there b o' (neC b o e hx) e1
  · obtain ⟨m1, e1⟩ := I.base.tbls b ps e
    obtain ⟨m2, e2⟩ := tbls b _ e1
    exact ⟨m1 ++ m2, by rw [e2, Array.append_assoc]⟩
  · obtain ⟨m, hn, hl⟩ := I.loc
    refine ⟨m, ns m hn, fun i x v e1 e2 e3 => ?_⟩
    obtain ⟨u, r, l⟩ := hl i x v e1 e2 e3
    refine ⟨u, r, ?_⟩
    rcases l with l | ⟨k, c, e, z⟩
    · exact .inl l
    · exact .inr ⟨k, c, e, cellK x c e _ z⟩
  · obtain ⟨v, z⟩ := I.cell x c e
    exact ⟨v, cellK x c e v z⟩
  · obtain ⟨m, ⟨o, _, _, ho, _⟩, _⟩ := I.loc
    exact free _ o (fun z => (hch _ z).2.1 rfl) ho I.free
  · obtain ⟨v, o, ho, hd⟩ := I.cell x c e
    exact free c o (fun z => (hch c z).2.2.1 x c e rfl) ho (I.freeC x c e)
  · obtain ⟨e, n, ne, nf, d⟩ := I.pin p hp
    have nch : p.1 ∉ ch := fun z => (hch p.1 z).2.2.2 p hp rfl
    exact ⟨keep p.1 p.2 ne nf nch e n, free p.1 p.2 nch e n, ne, nf, d⟩
/-- .. where the frame's own object is kept too -/
theorem Inv.un {t' : Nat} (I : Inv X pins σ H s) (u : Un X.fs [] H H' s.heap h') (hok : HOk X.prog X.w H' h') : Inv X pins σ H' { s with heap := h', toks := t' } := by
  obtain ⟨m, ⟨o, es, ep, ho, r⟩, _⟩ := id I.loc
  obtain ⟨sl, hL⟩ := u.any ho I.free (by simp)
  exact I.step (g' := s.gens) (d' := s.drawn) (ch := []) (fun _ z => nomatch z) (fun b o _ hb _ e n => u.keep b o e n hb (by simp)) (fun b o _ hb _ e n => u.slot b o e n hb (by simp)) (fun b o _ e n => u.free b o e n (by simp)) (fun b o _ e => u.there b o e (by simp)) u.tups u.frzs u.tbls (fun m' hm => by
    obtain ⟨o', es', ep', ho', r'⟩ := hm
    rw [ho] at ho'; cases ho'
    exact ⟨_, es', ep', hL, r'⟩) hok I.bare
/-- behind a call (or a comprehension's block): the slots of this frame may have changed too, the records at ch may have turned -/
theorem Inv.call {g' : Array GenState} {t' : Nat} {d' : Drawn} {ch : List Addr} (I : Inv X pins σ H s) (u : Un (frs X.stack) ch H H' s.heap h') (hok : HOk X.prog X.w H' h') (hg : AllBare g')
    (hch : ∀ b ∈ ch, (b ∈ X.ex ∨ X.s₀.heap.objs.size ≤ b) ∧ b ≠ X.env.locals ∧ (∀ x c, X.env.cells.lookup x = some c → c ≠ b) ∧ ∀ p ∈ X.pn ++ pins, p.1 ≠ b) :
    Inv X pins σ H' { s with heap := h', gens := g', drawn := d', toks := t' } := by
  obtain ⟨m, ⟨o, es, ep, ho, r⟩, _⟩ := id I.loc
  obtain ⟨sl, hL⟩ := u.any ho I.free fun z => (hch _ z).2.1 rfl
  exact I.step (ch := ch) hch (fun b o hL hb hc e n => u.keep b o e n (fun z => (List.mem_cons.mp (I.stkSub b z)).elim hL hb) hc) (fun b o _ _ hc e n => u.any e n hc) (fun b o hc e n => u.free b o e n hc) (fun b o hc e => u.there b o e hc) u.tups u.frzs u.tbls (fun m' hm => by
    obtain ⟨o', es', ep', ho', r'⟩ := hm
    rw [ho] at ho'; cases ho'
    exact ⟨_, es', ep', hL, r'⟩) hok hg
/-- an untracked record of ours (an iterator) has turned -/
theorem Inv.turned {t' : Nat} {it : Addr} (I : Inv X pins σ H s) (k : ∀ b o, b ≠ it → s.heap.get? b = some o → h'.get? b = some o) (hn : H it = none) (hL : it ≠ X.env.locals)
    (h1 : it ∈ X.ex ∨ X.s₀.heap.objs.size ≤ it) (h2 : ∀ x c, X.env.cells.lookup x = some c → c ≠ it) (h3 : ∀ p ∈ X.pn ++ pins, p.1 ≠ it) : Inv X pins σ H { s with heap := h', toks := t' } := by
  have nit : ∀ b u, H b = some u → b ≠ it := fun b u e z => by rw [z, hn] at e; cases e
  refine I.step (g' := s.gens) (d' := s.drawn) (ch := [it]) (fun b hb => ?_) (fun b o _ _ hc e _ => k b o (fun z => hc (by simp [z])) e) (fun b o _ _ hc e _ => ⟨o.slots, k b o (fun z => hc (by simp [z])) e⟩) (fun _ _ _ _ n => n)
    (fun b o hc e => ⟨o, k b o (fun z => hc (by simp [z])) e⟩) (fun _ _ e => e) (fun _ _ _ e => e) (fun b ps e => ⟨#[], by rw [e]; simp⟩) (fun m hm => ?_) (fun b u e => ?_) I.bare
  · have e : b = it := by simpa using hb
    subst e
    exact ⟨h1, hL, h2, h3⟩
  · obtain ⟨o, es, ep, ho, r⟩ := hm
    exact ⟨o, es, ep, k _ o (Ne.symm hL) ho, r⟩
  · refine (I.hok b u e).stay (fun c v hc q => k c v ?_ q) (fun _ q => q) fun _ _ q => q
    rcases hc with z | z
    · rw [z]; exact nit b u e
    · exact nit c _ z
theorem Inv.tok (I : Inv X pins σ H s) (t : Nat) : Inv X pins σ H { s with toks := t } := I.un (h' := s.heap) (t' := t) Un.refl I.hok
/-- all objects kept -/
theorem Inv.kept {t' : Nat} (I : Inv X pins σ H s) (k : ∀ b u, s.heap.get? b = some u → h'.get? b = some u) : Inv X pins σ H { s with heap := h', toks := t' } := I.un (Un.kept k) (I.hok.kept k)
/-- a new object laid and tracked -/
theorem Inv.laid {a : Addr} {o : HO} {t' : Nat} (I : Inv X pins σ H s) (k : ∀ b u, s.heap.get? b = some u → h'.get? b = some u) (hp : s.heap.objs.size ≤ a) (new : ObjOk X.prog X.w (upd H a o) h' a o) :
    Inv X pins σ (upd H a o) { s with heap := h', toks := t' } := I.un (Un.laid k hp (I.hok.fresh hp)) (I.hok.laid k hp new)
/-- an object written -/
theorem Inv.write {x e : Addr} {o : HO} {t' : Nat} (I : Inv X pins σ H s) (mu : Mut (H x)) (he : e = x ∨ H e = some (.own x)) (k : ∀ b u, b ≠ e → s.heap.get? b = some u → h'.get? b = some u) (heo : ∃ u, h'.get? e = some u)
    (new : ObjOk X.prog X.w (upd H x o) h' x o) : Inv X pins σ (upd H x o) { s with heap := h', toks := t' } := I.un (Un.write mu he k heo) (I.hok.write mu he k heo new)
/-- forgetting slots, pins -/
theorem Inv.weak {σ' : List (Option V)} (I : Inv X pins σ H s) (hl : σ'.length = σ.length) (w : ∀ (i : Nat) v, σ'[i]? = some (some v) → σ[i]? = some (some v)) : Inv X pins σ' H s :=
  ⟨I.ok, I.os, I.bare, I.base, let ⟨m, hn, hl'⟩ := I.loc; ⟨m, hn, fun i x v e1 e2 e3 => hl' i x v e1 (w i v e2) e3⟩, I.cell, I.free, I.freeC, I.pin, I.hok, hl.trans I.len⟩
theorem Inv.pins_of {pins' : List (Addr × Obj)} (I : Inv X pins σ H s) (h : ∀ p ∈ pins', s.heap.get? p.1 = some p.2 ∧ H p.1 = none ∧ p.1 ≠ X.env.locals ∧ p.1 ∉ X.fs ∧ ∀ v, p.2.data ≠ .cell v) : Inv X pins' σ H s :=
  ⟨I.ok, I.os, I.bare, I.base, I.loc, I.cell, I.free, I.freeC, fun p hp => (List.mem_append.mp hp).elim (fun z => I.pin p (List.mem_append_left _ z)) (h p), I.hok, I.len⟩

theorem nodup_ix {N : List Str} (hN : N.Nodup) {i j : Nat} {x : Str} (a : N[i]? = some x) (b : N[j]? = some x) : i = j := by
  obtain ⟨h1, e1⟩ := List.getElem?_eq_some_iff.mp a
  obtain ⟨h2, e2⟩ := List.getElem?_eq_some_iff.mp b
  exact (List.getElem_inj hN).mp (e1.trans e2.symm)

/-- a name is stored; what changed -/
theorem store_ok2 {M : Model} {A : Around} {E : Value → Shared → Prop} {i : Nat} {x : Str} {v : V} {u : Value} {Q : Unit → Shared → Prop} (I : Inv X pins σ H s) (hN : X.N.Nodup) (hi : X.N[i]? = some x) (hx : Loc X.env.scope x) (r : RelV v u)
    (h : ∀ s', Inv X pins (σ.set i (some v)) H s' → (∃ a, Heap.SameBut a s.heap s'.heap ∧ (a = X.env.locals ∨ X.env.cells.lookup x = some a)) → Q () s') (hf : X.fn x = true ∨ X.env.scope.names.lookup x = some .local := by first | exact .inl rfl | exact .inr rfl | assumption) : wpAny M A (storeName X.env x u) Q E s := by
  obtain ⟨m, hn, hl⟩ := id I.loc
  have hcls : (X.env.scope.kind == .class || (X.env.scope.kind == .module && X.env.locals != X.env.globals)) = false := by rw [I.ok.kind]; rfl
  have hiσ : i < σ.length := by rw [I.len]; exact (List.getElem?_eq_some_iff.mp hi).1
  have cne := I.cne
  have tracked : ∀ {a : Addr} {h' : Heap}, (∃ o, s.heap.get? a = some o ∧ H a = none) → Heap.SameBut a s.heap h' → HOk X.prog X.w H h' := fun {a h'} ha hs b ob e => by
    obtain ⟨_, _, hfree⟩ := ha
    refine (I.hok b ob e).stay (fun c w' hc q => (hs.2 c ?_).trans q) (fun _ q => q) fun _ _ q => q
    rintro rfl
    rcases hc with rfl | hc
    · rw [hfree] at e; cases e
    · rw [hfree] at hc; cases hc
  rcases hx with hk | hk
  · refine wpAny_storeName_local hk hn (fun h' hn' hs => ?_) hcls
    obtain ⟨oL, _, _, hoL, _⟩ := id hn
    refine h _ ⟨I.ok, I.os, I.bare, ⟨fun b o e n hb hx => ?_, fun b o e n hb hx => ?_, I.base.free, fun b o e hx => ?_, I.base.tups, I.base.frzs, I.base.tbls⟩, ⟨_, hn', fun j y v' e1 e2 e3 => ?_⟩, fun y c e => ?_, I.free, I.freeC, fun p hp => ?_, tracked ⟨oL, hoL, I.free⟩ hs, by simpa using I.len⟩ ⟨_, hs, .inl rfl⟩
    · exact (hs.2 b (Nat.ne_of_lt (Nat.lt_of_lt_of_le (Heap.lt_size e) I.ok.above))).trans (I.base.keep b o e n hb hx)
    · obtain ⟨sl, e1⟩ := I.base.slot b o e n hb hx
      exact ⟨sl, (hs.2 b (Nat.ne_of_lt (Nat.lt_of_lt_of_le (Heap.lt_size e) I.ok.above))).trans e1⟩
    · obtain ⟨o', e1⟩ := I.base.there b o e hx
      exact ⟨o', (hs.2 b (Nat.ne_of_lt (Nat.lt_of_lt_of_le (Heap.lt_size e) I.ok.above))).trans e1⟩
    · by_cases hj : j = i
      · subst hj
        rw [hi] at e1; cases e1
        rw [List.getElem?_set_self hiσ] at e2
        cases e2
        exact ⟨u, r, .inl ⟨hk, by simp⟩⟩
      · rw [List.getElem?_set_ne (Ne.symm hj)] at e2
        obtain ⟨u', r', q⟩ := hl j y v' e1 e2 e3
        refine ⟨u', r', ?_⟩
        rcases q with ⟨k, e⟩ | ⟨k, c, e, z⟩
        · refine .inl ⟨k, ?_⟩
          have : y ≠ x := fun e => hj (nodup_ix hN e1 (e ▸ hi))
          simp [this, e]
        · exact .inr ⟨k, c, e, z.sameBut hs (cne y c e)⟩
    · obtain ⟨w', z⟩ := I.cell y c e
      exact ⟨w', z.sameBut hs (cne y c e)⟩
    · obtain ⟨e, n, ne, nf, d⟩ := I.pin p hp
      exact ⟨(hs.2 p.1 ne).trans e, n, ne, nf, d⟩
  · have hfn : X.fn x = true := by
      rcases hf with z | z
      · exact z
      · rw [z] at hk; cases hk
    obtain ⟨c, hc⟩ := I.ok.has x (.inl hk)
    obtain ⟨w', z⟩ := I.cell x c hc
    refine wpAny_storeName_cell I.ok.kind hk hc z (fun h' hc' hs => ?_)
    obtain ⟨oc, hoc, hocd⟩ := id z
    refine h { s with heap := h' } ⟨I.ok, I.os, I.bare, ⟨fun b o e n hb hx => ?_, fun b o e n hb hx => ?_, I.base.free, fun b o e hx => ?_, I.base.tups, I.base.frzs, I.base.tbls⟩, ⟨m, hn.sameBut hs (Ne.symm (cne x c hc)), fun j y v' e1 e2 e3 => ?_⟩, fun y c' e => ?_, I.free, I.freeC, fun p hp => ?_, tracked ⟨oc, hoc, I.freeC x c hc⟩ hs, by simpa using I.len⟩ ⟨c, hs, .inr hc⟩
    · exact (hs.2 b (Nat.ne_of_lt (Nat.lt_of_lt_of_le (Heap.lt_size e) (I.ok.cab x c hfn hc)))).trans (I.base.keep b o e n hb hx)
    · obtain ⟨sl, e1⟩ := I.base.slot b o e n hb hx
      exact ⟨sl, (hs.2 b (Nat.ne_of_lt (Nat.lt_of_lt_of_le (Heap.lt_size e) (I.ok.cab x c hfn hc)))).trans e1⟩
    · obtain ⟨o', e1⟩ := I.base.there b o e hx
      exact ⟨o', (hs.2 b (Nat.ne_of_lt (Nat.lt_of_lt_of_le (Heap.lt_size e) (I.ok.cab x c hfn hc)))).trans e1⟩
    · by_cases hj : j = i
      · subst hj
        rw [hi] at e1; cases e1
        rw [List.getElem?_set_self hiσ] at e2
        cases e2
        exact ⟨u, r, .inr ⟨.inl hk, c, hc, hc'⟩⟩
      · rw [List.getElem?_set_ne (Ne.symm hj)] at e2
        obtain ⟨u', r', q⟩ := hl j y v' e1 e2 e3
        refine ⟨u', r', ?_⟩
        rcases q with q | ⟨k, c', e, z'⟩
        · exact .inl q
        · refine .inr ⟨k, c', e, z'.sameBut hs ?_⟩
          rintro rfl
          exact hj (nodup_ix hN e1 (I.ok.inj _ _ _ e hc ▸ hi))
    · by_cases hcc : c' = c
      · subst hcc; exact ⟨_, hc'⟩
      · obtain ⟨w2, z2⟩ := I.cell y c' e
        exact ⟨w2, z2.sameBut hs hcc⟩
    · obtain ⟨e, n, ne, nf, d⟩ := I.pin p hp
      refine ⟨(hs.2 p.1 ?_).trans e, n, ne, nf, d⟩
      intro q
      rw [q, hoc] at e
      have q' : oc = p.2 := Option.some.inj e
      exact d w' (by rw [← q']; exact hocd)
theorem store_ok {M : Model} {A : Around} {E : Value → Shared → Prop} {i : Nat} {x : Str} {v : V} {u : Value} {Q : Unit → Shared → Prop} (I : Inv X pins σ H s) (hN : X.N.Nodup) (hi : X.N[i]? = some x) (hx : Loc X.env.scope x) (r : RelV v u)
    (h : ∀ s', Inv X pins (σ.set i (some v)) H s' → Q () s') (hf : X.fn x = true ∨ X.env.scope.names.lookup x = some .local := by first | exact .inl rfl | exact .inr rfl | assumption) : wpAny M A (storeName X.env x u) Q E s :=
  store_ok2 I hN hi hx r (fun s' I' _ => h s' I') hf
/-- behind a call or a block, the state as it is -/
theorem Inv.call' {s' : Shared} {ch : List Addr} (I : Inv X pins σ H s) (ho : s'.os = s.os) (u : Un (frs X.stack) ch H H' s.heap s'.heap) (hok : HOk X.prog X.w H' s'.heap) (hg : AllBare s'.gens)
    (hch : ∀ b ∈ ch, (b ∈ X.ex ∨ X.s₀.heap.objs.size ≤ b) ∧ b ≠ X.env.locals ∧ (∀ x c, X.env.cells.lookup x = some c → c ≠ b) ∧ ∀ p ∈ X.pn ++ pins, p.1 ≠ b) : Inv X pins σ H' s' := by
  obtain ⟨h', g', d', t', o'⟩ := s'
  have e : o' = s.os := ho
  subst e
  exact I.call (g' := g') (t' := t') (d' := d') u hok hg hch
end

/-! ### the judgements -/
/-- an exception: its class, its own dict's address (where it has one), the abstract heap behind it -/
abbrev XK := Value → Option Addr → Hp → Prop
abbrev St := List (Option V)
abbrev VK := V → Hp → Prop
/-- an expression's reading; a test's; an argument list's -/
abbrev TE := St → Hp → VK → Prop
abbrev TT := St → Hp → (Bool → Hp → Prop) → Prop
abbrev TA := St → Hp → (List V → Hp → Prop) → Prop
/-- what is wanted behind a statement -/
structure Ends where
  nx : St → Hp → Prop
  rt : VK
  bk : St → Hp → Prop := fun _ _ => False
  ct : St → Hp → Prop := fun _ _ => False
abbrev TS := Ends → St → Hp → Prop

def EP (X : Cx) (pins : List (Addr × Obj)) (σ : St) (Q : VK) (u : Value) (s' : Shared) : Prop := ∃ v H', Inv X pins σ H' s' ∧ RelV v u ∧ Q v H'
def TP (X : Cx) (pins : List (Addr × Obj)) (σ : St) (Q : Bool → Hp → Prop) (b : Bool) (s' : Shared) : Prop := ∃ H', Inv X pins σ H' s' ∧ Q b H'
def AP (X : Cx) (pins : List (Addr × Obj)) (σ : St) (Q : List V → Hp → Prop) (us : List Value) (s' : Shared) : Prop := ∃ vs H', Inv X pins σ H' s' ∧ Vals vs us ∧ Q vs H'
def SP (X : Cx) (pins : List (Addr × Obj)) (D : Ends) (f : Flow) (s' : Shared) : Prop :=
  match f with
  | .next => ∃ σ' H', Inv X pins σ' H' s' ∧ D.nx σ' H'
  | .brk => ∃ σ' H', Inv X pins σ' H' s' ∧ D.bk σ' H'
  | .cont => ∃ σ' H', Inv X pins σ' H' s' ∧ D.ct σ' H'
  | .ret u => ∃ v σ' H', Inv X pins σ' H' s' ∧ RelV v u ∧ D.rt v H'

def PE (X : Cx) (e : Expr) (t : TE) : Prop :=
  ∀ (pins : List (Addr × Obj)) (s : Shared) (σ : St) (H : Hp) (Q : VK), Inv X pins σ H s → t σ H Q → wpAny (model X.prog X.w) X.A (eval e X.env) (EP X pins σ Q) X.xe s
def PT (X : Cx) (e : Expr) (t : TT) : Prop :=
  ∀ (pins : List (Addr × Obj)) (s : Shared) (σ : St) (H : Hp) (Q : Bool → Hp → Prop), Inv X pins σ H s → t σ H Q → wpAny (model X.prog X.w) X.A (isTrue e X.env (eval e X.env)) (TP X pins σ Q) X.xe s
/-- a test whatever its 'whole' is (and, or) -/
def PW (X : Cx) (e : Expr) (t : TT) : Prop :=
  ∀ (whole : Sem Value) (pins : List (Addr × Obj)) (s : Shared) (σ : St) (H : Hp) (Q : Bool → Hp → Prop), Inv X pins σ H s → t σ H Q → wpAny (model X.prog X.w) X.A (isTrue e X.env whole) (TP X pins σ Q) X.xe s
theorem PW.pt {X : Cx} {e : Expr} {t : TT} (h : PW X e t) : PT X e t := h _
/-- an argument list (no star), from the left -/
def PA (X : Cx) (es : List Expr) (t : TA) : Prop :=
  ∀ (pos : Pos) (pins : List (Addr × Obj)) (s : Shared) (σ : St) (H : Hp) (Q : List V → Hp → Prop), Inv X pins σ H s → t σ H Q → wpAny (model X.prog X.w) X.A (spliced (backTo pos (starEach es X.env))) (AP X pins σ Q) X.xe s
def PS (X : Cx) (st : Stmt) (t : TS) : Prop :=
  ∀ (pins : List (Addr × Obj)) (s : Shared) (σ : St) (H : Hp) (D : Ends), Inv X pins σ H s → t D σ H → wpAny (model X.prog X.w) X.A (exec st X.env) (SP X pins D) X.xe s
def PSs (X : Cx) (st : List Stmt) (t : TS) : Prop :=
  ∀ (pins : List (Addr × Obj)) (s : Shared) (σ : St) (H : Hp) (D : Ends), Inv X pins σ H s → t D σ H → wpAny (model X.prog X.w) X.A (execs st X.env) (SP X pins D) X.xe s
/-- weaken the end -/
theorem thn {α : Type} {t : Sem α} {Q Q' : α → Shared → Prop} {M : Model} {A : Around} {E : Value → Shared → Prop} {s : Shared} (h : wpAny M A t Q E s) (hQ : ∀ a s, Q a s → Q' a s) : wpAny M A t Q' E s := wpAny_mono h hQ fun _ _ x => x
end L2

namespace L2
open PySem PySem.Spec PyProof.Rows
section
variable {X : Cx}

/-! ### names and constants -/
def tVar (i : Nat) : TE := fun σ H Q => ∃ v, σ[i]? = some (some v) ∧ Q v H
def tC (v : V) : TE := fun _ H Q => Q v H
theorem pe_var {i : Nat} {x : Str} {pos : Pos} (hN : X.N[i]? = some x) (hv : Vis X.env.scope x) (hd : (x == ("__debug__" : Str)) = false := by decide) (hcd : (x == ("__classdict__" : Str)) = false := by decide) : PE X (.Name x pos) (tVar i) := by
  intro pins s σ H Q I h
  obtain ⟨v, e, h⟩ := h
  obtain ⟨m, hn, hl⟩ := I.loc
  obtain ⟨u, r, l⟩ := hl i x v hN e hv
  have fin : EP X pins σ Q u s := ⟨v, H, I, r, h⟩
  rcases l with ⟨hk, hm⟩ | ⟨hk, c, hc, hcell⟩
  · exact wpAny_Name (wpAny_loadName_local I.ok.kind hk hn hm fin) hd
  · rcases hk with hk | hk
    · exact wpAny_Name (wpAny_loadName_cell I.ok.kind hk hc hcell fin) hd
    · exact wpAny_Name (wpAny_loadName_free I.ok.kind hk hc hcell fin hcd) hd
theorem pe_int {i j pos} : PE X (.Constant (.int i) j pos) (tC (.int i)) := fun _ _ _ H _ I h => wpAny_Constant_int ⟨.int i, H, I.tok _, ⟨_, rfl⟩, h⟩
theorem pe_bl {b j pos} : PE X (.Constant (.bool b) j pos) (tC (.bl b)) := fun _ _ _ H _ I h => Constant_bool ⟨.bl b, H, I, rfl, h⟩
theorem pe_non {j pos} : PE X (.Constant .none j pos) (tC .non) := fun _ _ _ H _ I h => Constant_none ⟨.non, H, I, rfl, h⟩
theorem pe_str {x j pos} : PE X (.Constant (.str x) j pos) (tC (.str x)) := fun _ _ _ H _ I h => Calls.Constant_str ⟨.str x, H, I.tok _, ⟨_, rfl⟩, h⟩

/-- a global name of the def -/
def Gl (X : Cx) (x : Str) : Prop := X.env.kindOf x = some .globalImplicit
theorem ld_glob {E : Value → Shared → Prop} {pins : List (Addr × Obj)} {s : Shared} {σ : St} {H : Hp} {x : Str} {u : Value} {pos : Pos} {Q : Value → Shared → Prop} (I : Inv X pins σ H s) (hg : Gl X x) (hm : X.mg x = some u) (h : Q u s)
    (hd : (x == ("__debug__" : Str)) = false := by decide) : wpAny (model X.prog X.w) X.A (eval (.Name x pos) X.env) Q E s :=
  Calls.Name_function_global I.ok.kind hg (Calls.loadGlobal_global (by rw [I.ok.glob]; exact I.mod.glob.keeps I.bk) hm h) hd
theorem ld_blt {E : Value → Shared → Prop} {pins : List (Addr × Obj)} {s : Shared} {σ : St} {H : Hp} {x : Str} {u : Value} {pos : Pos} {Q : Value → Shared → Prop} (I : Inv X pins σ H s) (hg : Gl X x) (hm : X.mg x = none) (hv : bootBuiltins x = some u) (h : Q u s)
    (hn : x ≠ "__name__" := by decide) (hd : (x == ("__debug__" : Str)) = false := by decide) : wpAny (model X.prog X.w) X.A (eval (.Name x pos) X.env) Q E s := by
  obtain ⟨mb, h1, h2⟩ := I.mod.blt
  exact Calls.Name_function_global I.ok.kind hg (Calls.loadGlobal_builtin (by rw [I.ok.glob]; exact I.mod.glob.keeps I.bk) hm (by rw [I.ok.blt]; exact h1.keeps I.bk) ((h2 x hn).trans hv) h) hd
/-- a module's constant, a class, a function, as a value -/
theorem pe_glob {x : Str} {v : V} {u : Value} {pos : Pos} (hg : Gl X x) (hm : X.mg x = some u) (r : RelV v u) (hd : (x == ("__debug__" : Str)) = false := by decide) : PE X (.Name x pos) (tC v) :=
  fun _ _ _ H _ I h => ld_glob I hg hm ⟨v, H, I, r, h⟩ hd
theorem pe_bltn {x : Str} {v : V} {u : Value} {pos : Pos} (hg : Gl X x) (hm : X.mg x = none) (hv : bootBuiltins x = some u) (r : RelV v u) (hn : x ≠ "__name__" := by decide) (hd : (x == ("__debug__" : Str)) = false := by decide) : PE X (.Name x pos) (tC v) :=
  fun _ _ _ H _ I h => ld_blt I hg hm hv ⟨v, H, I, r, h⟩ hn hd

/-! ### arithmetic -/
/-- two ints -/
def t2I (ta tb : TE) (k : Int → Int → Hp → Prop) : St → Hp → Prop := fun σ H => ta σ H fun x H1 => tb σ H1 fun y H2 => ∃ i j, x = .int i ∧ y = .int j ∧ k i j H2
def tAdd (ta tb : TE) : TE := fun σ H Q => t2I ta tb (fun i j H2 => Q (.int (i + j)) H2) σ H
def tSub (ta tb : TE) : TE := fun σ H Q => t2I ta tb (fun i j H2 => Q (.int (i - j)) H2) σ H
/-- the left factor below 2^64 -/
def tMul (ta tb : TE) : TE := fun σ H Q => t2I ta tb (fun i j H2 => (-(2 ^ 64) < i ∧ i < 2 ^ 64) ∧ Q (.int (i * j)) H2) σ H
variable {a b : Expr} {ta tb : TE} {pos : Pos}
/-! ### comparisons -/
def PC (X : Cx) (op : CmpOp) (a b : Expr) (t : TE) : Prop :=
  ∀ (pins : List (Addr × Obj)) (s : Shared) (σ : St) (H : Hp) (Q : VK), Inv X pins σ H s → t σ H Q →
    wpAny (model X.prog X.w) X.A (eval a X.env) (fun v s₁ => wpAny (model X.prog X.w) X.A (eval b X.env) (fun u s₂ => wpAny (model X.prog X.w) X.A (compareOp op v u) (EP X pins σ Q) X.xe s₂) X.xe s₁) X.xe s
def tCmp (p : Int → Int → Bool) (ta tb : TE) : TE := fun σ H Q => t2I ta tb (fun i j H2 => Q (.bl (p i j)) H2) σ H
abbrev tLt : TE → TE → TE := tCmp fun i j => decide (i < j)
abbrev tLe : TE → TE → TE := tCmp fun i j => decide (i ≤ j)
abbrev tGt : TE → TE → TE := tCmp fun i j => decide (j < i)
abbrev tGe : TE → TE → TE := tCmp fun i j => decide (j ≤ i)
abbrev tEqI : TE → TE → TE := tCmp fun i j => decide (i = j)
abbrev tNeI : TE → TE → TE := tCmp fun i j => !decide (i = j)
/-- is None -/
def tIsN (ta : TE) : TE := fun σ H Q => ta σ H fun x H1 => Q (.bl (decide (x = .non))) H1
def tNotN (ta : TE) : TE := fun σ H Q => ta σ H fun x H1 => Q (.bl (!decide (x = .non))) H1
/-- a comparison as a value, as a test -/
def tB (t : TE) : TT := fun σ H Q => t σ H fun x H1 => ∃ c, x = .bl c ∧ Q c H1
/-! ### and, or, not -/
variable {tA tB' : TT} {rest : List Expr}
def tAnd (t u : TT) : TT := fun σ H Q => t σ H fun c H1 => if c = true then u σ H1 Q else Q false H1
def tOr (t u : TT) : TT := fun σ H Q => t σ H fun c H1 => if c = true then Q true H1 else u σ H1 Q
def tNot (t : TT) : TT := fun σ H Q => t σ H fun c H1 => Q (!c) H1
theorem pw_and1 (ha : PT X a tA) : PW X (.BoolOp .And [a] pos) tA := by
  intro wh pins s σ H Q I h
  refine isTrue_and (thn (ha pins s σ H Q I h) fun c s1 e => ?_)
  cases c with
  | true => exact isTrue_and_nil e
  | false => exact e
theorem pw_or1 (ha : PT X a tA) : PW X (.BoolOp .Or [a] pos) tA := by
  intro wh pins s σ H Q I h
  refine isTrue_or (thn (ha pins s σ H Q I h) fun c s1 e => ?_)
  cases c with
  | false => exact isTrue_or_nil e
  | true => exact e
theorem pw_and (ha : PT X a tA) (hb : PW X (.BoolOp .And (b :: rest) pos) tB') : PW X (.BoolOp .And (a :: b :: rest) pos) (tAnd tA tB') := by
  intro wh pins s σ H Q I h
  refine isTrue_and (thn (ha pins s σ H _ I h) fun c s1 ⟨H1, I1, q1⟩ => ?_)
  cases c with
  | true => exact hb wh pins s1 σ H1 Q I1 q1
  | false => exact ⟨H1, I1, q1⟩
theorem pw_or (ha : PT X a tA) (hb : PW X (.BoolOp .Or (b :: rest) pos) tB') : PW X (.BoolOp .Or (a :: b :: rest) pos) (tOr tA tB') := by
  intro wh pins s σ H Q I h
  refine isTrue_or (thn (ha pins s σ H _ I h) fun c s1 ⟨H1, I1, q1⟩ => ?_)
  cases c with
  | true => exact ⟨H1, I1, q1⟩
  | false => exact hb wh pins s1 σ H1 Q I1 q1
theorem pt_not (ha : PT X a tA) : PT X (.UnaryOp .Not a pos) (tNot tA) := by
  intro pins s σ H Q I h
  exact isTrue_not (ha pins s σ H (fun c H1 => Q (!c) H1) I h)
/-- .. as values (bools) -/
def tAndV (ta tb : TE) : TE := fun σ H Q => ta σ H fun x H1 => ∃ c, x = .bl c ∧ if c = true then tb σ H1 Q else Q (.bl false) H1
def tOrV (ta tb : TE) : TE := fun σ H Q => ta σ H fun x H1 => ∃ c, x = .bl c ∧ if c = true then Q (.bl true) H1 else tb σ H1 Q
def tNotV (ta : TE) : TE := fun σ H Q => ta σ H fun x H1 => ∃ c, x = .bl c ∧ Q (.bl (!c)) H1
theorem pe_one {op} {t : TE} (h : PE X a t) : PE X (.BoolOp op [a] pos) t := fun pins s σ H Q I hw => BoolOp_one (h pins s σ H Q I hw)
/-- a if t else b -/
def tIf (t : TT) (ta tb : TE) : TE := fun σ H Q => t σ H fun c H1 => if c = true then ta σ H1 Q else tb σ H1 Q
theorem pe_ifExp {c : Expr} (hc : PT X c tA) (ha : PE X a ta) (hb : PE X b tb) : PE X (.IfExp c a b pos) (tIf tA ta tb) := by
  intro pins s σ H Q I h
  refine wpAny_IfExp (thn (hc pins s σ H _ I h) fun d s1 ⟨H1, I1, q1⟩ => ?_)
  cases d with
  | true => exact ha pins s1 σ H1 Q I1 q1
  | false => exact hb pins s1 σ H1 Q I1 q1
end
end L2

namespace L2
open PySem PySem.Spec PyProof.Rows

/-! ### a list, a tuple that is read: tracked, frozen, or an object of the module -/
def SqL (K : PySem.W.Frag) (H : Hp) (a : Addr) (xs : List V) : Prop :=
  Rd H a (.lst xs) ∨
    ∃ (o : Obj) (its : Array Value) (n : Nat), K.lookup a = some o ∧ o.cls = .type "list" ∧ o.dict = none ∧ o.data = .seq its n ∧ its.size ≤ sizeLine ∧ Vals xs its.toList
def SqT (K : PySem.W.Frag) (H : Hp) (a : Addr) (xs : List V) : Prop :=
  Rd H a (.tup xs) ∨
    ∃ (o : Obj) (its : Array Value) (n : Nat), K.lookup a = some o ∧ o.cls = .type "tuple" ∧ o.data = .seq its n ∧ its.size ≤ sizeLine ∧ Vals xs its.toList
def absV : Value → Option V
  | .none => some .non
  | .bool b => some (.bl b)
  | .int i _ => some (.int i)
  | .str x _ => some (.str x)
  | .bytes b _ => some (.byt b)
  | .float b _ => some (.flt b)
  | .ref a => some (.ref a)
  | .type n => some (.ty n)
  | _ => none
theorem RelV.abs {x : V} {u : Value} (r : RelV x u) : absV u = some x := by
  cases x with
  | non => cases r; rfl
  | bl _ => cases r; rfl
  | int _ => obtain ⟨t, rfl⟩ := r; rfl
  | str _ => obtain ⟨t, rfl⟩ := r; rfl
  | byt _ => obtain ⟨t, rfl⟩ := r; rfl
  | flt _ => obtain ⟨t, rfl⟩ := r; rfl
  | ref _ => cases r; rfl
  | ty _ => cases r; rfl
theorem RelV.inj {x y : V} {u : Value} (r : RelV x u) (q : RelV y u) : x = y := Option.some.inj (r.abs.symm.trans q.abs)
theorem Vals.inj : ∀ {xs ys : List V} {us : List Value}, Vals xs us → Vals ys us → xs = ys
  | _, _, _, .nil, .nil => rfl
  | _, _, _, .cons r t, .cons r' t' => by rw [r.inj r', Vals.inj t t']
section
variable {X : Cx} {pins : List (Addr × Obj)} {σ : St} {H : Hp} {s : Shared} {a : Addr} {xs ys : List V}
theorem SqL.of {K : PySem.W.Frag} (h : H a = some (.lst xs)) : SqL K H a xs := .inl (.inl h)
theorem SqT.of {K : PySem.W.Frag} (h : H a = some (.tup xs)) : SqT K H a xs := .inl (.inl h)
theorem Inv.list (I : Inv X pins σ H s) (h : SqL X.K H a xs) : ∃ its : List Value, Vals xs its ∧ PlainL s.heap a its.toArray ∧ xs.length ≤ sizeLine := by
  rcases h with h | ⟨o, its, n, hk, hc, hd, hs, hz, r⟩
  · obtain ⟨z, its, n, r, e⟩ := h.ok I.hok
    exact ⟨its, r, ⟨_, n, e, rfl, rfl, rfl⟩, z⟩
  · refine ⟨its.toList, r, ⟨o, n, I.kIn a o hk, hc, hd, by simpa using hs⟩, ?_⟩
    have e := r.length
    simp only [Array.length_toList] at e
    omega
theorem Inv.tuple (I : Inv X pins σ H s) (h : SqT X.K H a xs) : ∃ its : List Value, Vals xs its ∧ IsTup s.heap a its.toArray ∧ xs.length ≤ sizeLine := by
  rcases h with h | ⟨o, its, n, hk, hc, hs, hz, r⟩
  · obtain ⟨z, its, r, p⟩ := h.ok I.hok
    exact ⟨its, r, p, z⟩
  · refine ⟨its.toList, r, ⟨o, I.kIn a o hk, hc, n, by simpa using hs⟩, ?_⟩
    have e := r.length
    simp only [Array.length_toList] at e
    omega
theorem Inv.list_inj (I : Inv X pins σ H s) (h : SqL X.K H a xs) (h' : SqL X.K H a ys) : xs = ys := by
  obtain ⟨its, r, ⟨o, n, e, _, _, d⟩, _⟩ := I.list h
  obtain ⟨its', r', ⟨o', n', e', _, _, d'⟩, _⟩ := I.list h'
  rw [e] at e'; cases e'
  rw [d] at d'
  injection d' with d1 _
  have : its = its' := by simpa using congrArg Array.toList d1
  subst this
  exact r.inj r'
theorem Inv.tuple_inj (I : Inv X pins σ H s) (h : SqT X.K H a xs) (h' : SqT X.K H a ys) : xs = ys := by
  obtain ⟨its, r, ⟨o, e, _, n, d⟩, _⟩ := I.tuple h
  obtain ⟨its', r', ⟨o', e', _, n', d'⟩, _⟩ := I.tuple h'
  rw [e] at e'; cases e'
  rw [d] at d'
  injection d' with d1 _
  have : its = its' := by simpa using congrArg Array.toList d1
  subst this
  exact r.inj r'
end

/-! ### another wish about exceptions -/
abbrev Cx.wish (X : Cx) (E : Value → Shared → Prop) : Cx := { X with xe := E }
/-- no exception leaves -/
abbrev Cx.nox (X : Cx) : Cx := X.wish fun _ _ => False
theorem Cx.Ok.wish {X : Cx} (ok : X.Ok) (E : Value → Shared → Prop) : (X.wish E).Ok :=
  ⟨ok.mod, ok.kind, ok.glob, ok.blt, ok.above, ok.inj, ok.has, ok.cab, ok.hd, ok.frames, ok.stk, ok.exf, ok.bs, ok.bsz, ok.noex, ok.exfs, ok.funs, ok.frf⟩
theorem Cx.Ok.unwish {X : Cx} {E : Value → Shared → Prop} (ok : (X.wish E).Ok) : X.Ok :=
  ⟨ok.mod, ok.kind, ok.glob, ok.blt, ok.above, ok.inj, ok.has, ok.cab, ok.hd, ok.frames, ok.stk, ok.exf, ok.bs, ok.bsz, ok.noex, ok.exfs, ok.funs, ok.frf⟩
section
variable {X : Cx} {pins : List (Addr × Obj)} {σ : St} {H : Hp} {s : Shared} {E : Value → Shared → Prop}
theorem Inv.wish (I : Inv X pins σ H s) (E : Value → Shared → Prop) : Inv (X.wish E) pins σ H s := ⟨I.ok.wish E, I.os, I.bare, I.base, I.loc, I.cell, I.free, I.freeC, I.pin, I.hok, I.len⟩
theorem Inv.unwish (I : Inv (X.wish E) pins σ H s) : Inv X pins σ H s := ⟨I.ok.unwish, I.os, I.bare, I.base, I.loc, I.cell, I.free, I.freeC, I.pin, I.hok, I.len⟩
theorem SP.unwish {D : Ends} {f : Flow} {s' : Shared} (h : SP (X.wish E) pins D f s') : SP X pins D f s' := by
  cases f with
  | next => obtain ⟨σ', H', I, q⟩ := h; exact ⟨σ', H', I.unwish, q⟩
  | brk => obtain ⟨σ', H', I, q⟩ := h; exact ⟨σ', H', I.unwish, q⟩
  | cont => obtain ⟨σ', H', I, q⟩ := h; exact ⟨σ', H', I.unwish, q⟩
  | ret u => obtain ⟨v, σ', H', I, r, q⟩ := h; exact ⟨v, σ', H', I.unwish, r, q⟩
theorem PSs.nox {st : List Stmt} {t : TS} (h : PSs X.nox st t) : PSs X st t := fun pins s σ H D I hw =>
  wpAny_mono (h pins s σ H D (I.wish _) hw) (fun _ _ q => q.unwish) fun _ _ z => False.elim z
end

/-! ### blocks and small statements -/
section
variable {X : Cx} {st : Stmt} {rest : List Stmt} {t u : TS} {e : Expr} {te : TE} {pos : Pos}
def tNext : TS := fun D σ H => D.nx σ H
def tSeq (t u : TS) : TS := fun D σ H => t { D with nx := u D } σ H
theorem pss_nil : PSs X [] tNext := fun _ _ σ H _ I h => wpAny_execs_nil ⟨σ, H, I, h⟩
theorem pss_cons (h1 : PS X st t) (h2 : PSs X rest u) : PSs X (st :: rest) (tSeq t u) := by
  intro pins s σ H D I h
  refine wpAny_execs_cons (thn (h1 pins s σ H { D with nx := u D } I h) fun f s1 q => ?_)
  cases f with
  | next =>
    obtain ⟨σ', H', I', q⟩ := q
    exact h2 pins s1 σ' H' D I' q
  | ret v => exact q
  | brk => exact q
  | cont => exact q
theorem pss_one (h1 : PS X st t) : PSs X [st] t := by
  intro pins s σ H D I h
  refine wpAny_execs_cons (thn (h1 pins s σ H D I h) fun f s1 q => ?_)
  cases f with
  | next => exact wpAny_execs_nil q
  | ret v => exact q
  | brk => exact q
  | cont => exact q
def tBreak : TS := fun D σ H => D.bk σ H
def tCont : TS := fun D σ H => D.ct σ H
/-- in a def's body nothing is shown -/
theorem Inv.quiet {pins : List (Addr × Obj)} {σ : St} {H : Hp} {s : Shared} (I : Inv X pins σ H s) : interactive X.env = false := by simp [interactive, I.ok.kind]
/-- an expression whose value is dropped -/
def tDrop (te : TE) : TS := fun D σ H => te σ H fun _ H1 => D.nx σ H1
theorem ps_expr (he : PE X e te) (hs : swapsWith e none pos.line X.env = pure false := by rfl) : PS X (.Expr e pos) (tDrop te) := by
  intro pins s σ H D I h
  exact wpAny_Expr_any (thn (he pins s σ H _ I h) fun v s1 ⟨x, H1, I1, r1, q1⟩ => ⟨σ, H1, I1, q1⟩) I.quiet hs
def tRet (te : TE) : TS := fun D σ H => te σ H D.rt
theorem ps_ret (he : PE X e te) : PS X (.Return (some e) pos) (tRet te) := by
  intro pins s σ H D I h
  exact wpAny_Return_some (thn (he pins s σ H _ I h) fun v s1 ⟨x, H1, I1, r1, q1⟩ => ⟨x, σ, H1, I1, r1, q1⟩)
def tRetN : TS := fun D _ H => D.rt .non H
def tIfS (c : TT) (t u : TS) : TS := fun D σ H => c σ H fun b H1 => if b = true then t D σ H1 else u D σ H1
theorem ps_if {c : Expr} {a b : List Stmt} {tc : TT} (hc : PT X c tc) (ha : PSs X a t) (hb : PSs X b u) : PS X (.If c a b pos) (tIfS tc t u) := by
  intro pins s σ H D I h
  refine wpAny_If (thn (hc pins s σ H _ I h) fun d s1 ⟨H1, I1, q1⟩ => ?_)
  cases d with
  | true => exact ha pins s1 σ H1 D I1 q1
  | false => exact hb pins s1 σ H1 D I1 q1
/-- code that the proof never comes to -/
def tNever : TS := fun _ _ _ => False
end

/-! ### targets -/
abbrev TG := V → St → Hp → (St → Hp → Prop) → Prop
abbrev TGs := List V → St → Hp → (St → Hp → Prop) → Prop
def PG (X : Cx) (target : Expr) (t : TG) : Prop :=
  ∀ (pins : List (Addr × Obj)) (s : Shared) (σ : St) (H : Hp) (v : V) (u : Value) (Q : St → Hp → Prop), Inv X pins σ H s → RelV v u → t v σ H Q →
    wpAny (model X.prog X.w) X.A (assign target X.env u) (fun _ s' => ∃ σ' H', Inv X pins σ' H' s' ∧ Q σ' H') X.xe s
/-- several targets, one after another -/
def PGs (X : Cx) (ts : List Expr) (t : TGs) : Prop :=
  ∀ (pins : List (Addr × Obj)) (s : Shared) (σ : St) (H : Hp) (vs : List V) (us : List Value) (Q : St → Hp → Prop), Inv X pins σ H s → Vals vs us → t vs σ H Q →
    wpAny (model X.prog X.w) X.A (assignInOrder ((assignEach ts X.env).map (·.2)) us) (fun _ s' => ∃ σ' H', Inv X pins σ' H' s' ∧ Q σ' H') X.xe s
/-- o[i] = v, by values -/
abbrev TSet := V → V → V → Hp → (Hp → Prop) → Prop
def PSet (X : Cx) (t : TSet) : Prop :=
  ∀ (pins : List (Addr × Obj)) (s : Shared) (σ : St) (H : Hp) (o i v : V) (ov iv u : Value) (Q : Hp → Prop), Inv X pins σ H s → RelV o ov → RelV i iv → RelV v u → t o i v H Q →
    wpAny (model X.prog X.w) X.A (setItem ov iv u) (fun _ s' => ∃ H', Inv X pins σ H' s' ∧ Q H') X.xe s
/-- a op= b, by values -/
abbrev TIp := V → V → Hp → VK → Prop
def PIp (X : Cx) (op : Operator) (t : TIp) : Prop :=
  ∀ (pins : List (Addr × Obj)) (s : Shared) (σ : St) (H : Hp) (x y : V) (v u : Value) (Q : VK), Inv X pins σ H s → RelV x v → RelV y u → t x y H Q →
    wpAny (model X.prog X.w) X.A (inplaceOp op v u) (EP X pins σ Q) X.xe s
section
variable {X : Cx} {pos : Pos}
def gName (i : Nat) : TG := fun v σ H Q => Q (σ.set i (some v)) H
theorem pg_name {i : Nat} {x : Str} (hN : X.N.Nodup) (hi : X.N[i]? = some x) (hx : Loc X.env.scope x) (hf : X.fn x = true ∨ X.env.scope.names.lookup x = some .local := by first | exact .inl rfl | exact .inr rfl | assumption) : PG X (.Name x pos) (gName i) := by
  intro pins s σ H v u Q I r h
  exact wpAny_assign_Name (store_ok I hN hi hx r (fun s' I' => ⟨_, H, I', h⟩) hf)
def gNil : TGs := fun vs σ H Q => vs = [] ∧ Q σ H
def gCons (t : TG) (u : TGs) : TGs := fun vs σ H Q => ∃ v r, vs = v :: r ∧ t v σ H fun σ' H' => u r σ' H' Q
/-- (a, b, ..) = a tuple of that length -/
def gTup (K : PySem.W.Frag) (n : Nat) (t : TGs) : TG := fun v σ H Q => ∃ a xs, v = .ref a ∧ SqT K H a xs ∧ xs.length = n ∧ t xs σ H Q
/-- o[i] = .. -/
def gSub (to ti : TE) (t : TSet) : TG := fun v σ H Q => to σ H fun o H1 => ti σ H1 fun i H2 => t o i v H2 fun H3 => Q σ H3
theorem pg_sub {o i : Expr} {to ti : TE} {t : TSet} (ho : PE X o to) (hi : PE X i ti) (hs : PSet X t)
    (ha : ∀ v, assign (.Subscript o i pos) X.env v = (do
      let ov ← holding [v] (eval o X.env)
      let iv ← holding [v, ov] (eval i X.env)
      standAt pos
      holding [v, ov, iv] (setItem ov iv v)
      release [v, ov, iv] []) := by intro _; rfl) : PG X (.Subscript o i pos) (gSub to ti t) := by
  intro pins s σ H v u Q I r h
  rw [ha]
  refine wpAny_bind (wpAny_holding (thn (ho pins s σ H _ I h) fun ov s1 ⟨x, H1, I1, r1, q1⟩ => ?_))
  refine wpAny_bind (wpAny_holding (thn (hi pins s1 σ H1 _ I1 q1) fun iv s2 ⟨y, H2, I2, r2, q2⟩ => ?_))
  refine wpAny_bind (wpAny_standAt (wpAny_bind (wpAny_holding (thn (hs pins s2 σ H2 x y v ov iv u _ I2 r1 r2 r q2) fun _ s3 ⟨H3, I3, q3⟩ => ?_))))
  exact wpAny_release ⟨σ, H3, I3, q3⟩
/-- target = value -/
def tAsg (te : TE) (g : TG) : TS := fun D σ H => te σ H fun x H1 => g x σ H1 D.nx
theorem ps_asg {tg e : Expr} {te : TE} {g : TG} (he : PE X e te) (hg : PG X tg g) (hs : swapsWithSole [tg] e pos.line X.env = pure false := by rfl) (hw : swappedStores [tg] e X.env = pure none := by rfl)
    (h1 : (assignEach [tg] X.env).map (·.2) = [assign tg X.env] := by rfl) : PS X (.Assign [tg] e pos) (tAsg te g) := by
  intro pins s σ H D I h
  refine wpAny_Assign_stores (thn (he pins s σ H _ I h) fun v s1 ⟨x, H1, I1, r1, q1⟩ => ?_) hs hw
  rw [h1]
  exact thn (hg pins s1 σ H1 x v _ I1 r1 q1) fun _ s2 q => q
/-- name = value -/
theorem ps_set {i : Nat} {x : Str} {e : Expr} {te : TE} {pos' : Pos} (hN : X.N.Nodup) (hi : X.N[i]? = some x) (hx : Loc X.env.scope x) (he : PE X e te) (hs : swapsWith e (some (.Name x pos')) pos.line X.env = pure false := by rfl) (hf : X.fn x = true ∨ X.env.scope.names.lookup x = some .local := by first | exact .inl rfl | exact .inr rfl | assumption) :
    PS X (.Assign [.Name x pos'] e pos) (tAsg te (gName i)) := by
  intro pins s σ H D I h
  refine wpAny_Assign_Name (thn (he pins s σ H _ I h) fun v s1 ⟨y, H1, I1, r1, q1⟩ => ?_) hs
  exact store_ok I1 hN hi hx r1 (fun s2 I2 => ⟨_, H1, I2, q1⟩) hf
/-- a, b = x, y with plain local names: stored from the right; the pair itself is not tracked (the opening rows as in PyProof/Rows/TupAssign.lean:23) -/
def tPar (i j : Nat) (ta : TA) : TS := fun D σ H => ta σ H fun vs H1 => ∃ v w, vs = [v, w] ∧ D.nx ((σ.set i (some v)).set j (some w)) H1
/-- name op= e -/
def tAug (i : Nat) (te : TE) (ti : TIp) : TS := fun D σ H => ∃ x, σ[i]? = some (some x) ∧ te σ H fun y H1 => ti x y H1 fun z H2 => D.nx (σ.set i (some z)) H2
/-- o[i] op= e -/
def tAugS (to ti te : TE) (tget : V → V → Hp → VK → Prop) (tip : TIp) (tset : TSet) : TS := fun D σ H => to σ H fun o H1 => ti σ H1 fun i H2 => tget o i H2 fun x H3 => te σ H3 fun y H4 => tip x y H4 fun z H5 => tset o i z H5 fun H6 => D.nx σ H6
/-- o[i], by values -/
def PGet (X : Cx) (t : V → V → Hp → VK → Prop) : Prop :=
  ∀ (pins : List (Addr × Obj)) (s : Shared) (σ : St) (H : Hp) (o i : V) (ov iv : Value) (Q : VK), Inv X pins σ H s → RelV o ov → RelV i iv → t o i H Q →
    wpAny (model X.prog X.w) X.A (getItem ov iv) (EP X pins σ Q) X.xe s
/-- ints -/
def ipI (f : Int → Int → Int) : TIp := fun x y H Q => ∃ i j, x = .int i ∧ y = .int j ∧ Q (.int (f i j)) H
end

/-! ### while -/
section
variable {X : Cx} {pos : Pos}
/-- the invariant W with its measure -/
def tWhile (c : TT) (tb : TS) : TS := fun D σ H => ∃ W : Nat → St → Hp → Prop, (∃ m, W m σ H) ∧ ∀ m σ H, W m σ H →
  c σ H fun b H1 => if b = true then ∃ N : St → Hp → Prop, (∀ σ' H', N σ' H' → ∃ m', m' < m ∧ W m' σ' H') ∧ tb { D with nx := N, ct := N, bk := D.nx } σ H1 else D.nx σ H1
theorem ps_while {c : Expr} {body : List Stmt} {tc : TT} {tb : TS} (hp : PassesOwn (model X.prog X.w) X.A X.env X.xe) (hc : PT X c tc) (hb : PSs X body tb) : PS X (.While c body [] pos) (tWhile tc tb) := by
  intro pins s σ H D I h
  obtain ⟨W, ⟨m0, w0⟩, turn⟩ := h
  refine wpAny_While (codeAny_whileLoop (fun n s' => ∃ σ' H', Inv X pins σ' H' s' ∧ W n σ' H') ?_ m0 ⟨σ, H, I, w0⟩)
  rintro n s1 ⟨σ1, H1, I1, w1⟩
  refine wpAny_passesOwn hp (thn (hc pins s1 σ1 H1 _ I1 (turn n σ1 H1 w1)) fun b s2 ⟨H2, I2, q2⟩ => ?_)
  cases b with
  | true =>
    obtain ⟨N, hN, q2⟩ := q2
    rw [if_pos rfl]
    refine wpAny_passesOwn hp (thn (hb pins s2 σ1 H2 _ I2 q2) fun f s3 q3 => ?_)
    cases f with
    | next =>
      obtain ⟨σ3, H3, I3, n3⟩ := q3
      obtain ⟨m', hm, w3⟩ := hN σ3 H3 n3
      exact ⟨m', hm, σ3, H3, I3, w3⟩
    | cont =>
      obtain ⟨σ3, H3, I3, n3⟩ := q3
      obtain ⟨m', hm, w3⟩ := hN σ3 H3 n3
      exact ⟨m', hm, σ3, H3, I3, w3⟩
    | brk => exact q3
    | ret v => exact q3
  | false =>
    rw [if_neg Bool.false_ne_true]
    exact wpAny_execs_nil ⟨σ1, H2, I2, q2⟩
end

/-! ### what a loop or a comprehension walks -/
/-- at turn i: it yields x (the heap may grow), or it stops -/
structure It where
  go : Nat → Hp → Prop
  yld : Nat → Hp → V → Hp → Prop
  stop : Nat → Hp → Prop
/-- the iterator's own objects may turn: they are not the frame's, not pinned, younger than the entry (or a comprehension's own) -/
def FpOk (X : Cx) (pins : List (Addr × Obj)) (H : Hp) (b : Addr) : Prop :=
  H b = none ∧ b ≠ X.env.locals ∧ b ∉ X.fs ∧ (b ∈ X.ex ∨ X.s₀.heap.objs.size ≤ b) ∧ (∀ x c, X.env.cells.lookup x = some c → c ≠ b) ∧ ∀ p ∈ X.pn ++ pins, p.1 ≠ b
theorem Inv.fpOk {X : Cx} {pins : List (Addr × Obj)} {σ : St} {H H' : Hp} {s : Shared} {b : Addr} (I : Inv X pins σ H s) (hb : s.heap.objs.size ≤ b) (hn : H' b = none) : FpOk X pins H' b := by
  refine ⟨hn, Nat.ne_of_gt (Nat.lt_of_lt_of_le I.lt hb), I.nofs hb, .inr (Nat.le_trans I.sz hb), fun x c e z => ?_, fun p hp z => ?_⟩
  · obtain ⟨v, q⟩ := I.cell x c e
    exact absurd (Nat.lt_of_lt_of_le q.lt (by rw [z]; exact hb)) (Nat.lt_irrefl _)
  · exact absurd (Nat.lt_of_lt_of_le (Heap.lt_size (I.pin p hp).1) (by rw [z]; exact hb)) (Nat.lt_irrefl _)
structure Turn (P : Program) (w : World) (K : PySem.W.Frag) (tg : Expr) (J : It) (fp : List Addr) (it : Addr) (tn : Nat → Heap → Prop) : Prop where
  mem : it ∈ fp
  obj : ∀ i h, tn i h → ∀ b ∈ fp, ∃ o, h.get? b = some o ∧ ∀ v, o.data ≠ .cell v
  keep : ∀ i h h', tn i h → (∀ b ∈ fp, ∀ o, h.get? b = some o → h'.get? b = some o) → tn i h'
  item : ∀ (X : Cx), X.prog = P → X.w = w → X.K = K → X.calm = true → ∀ (i : Nat) (pins : List (Addr × Obj)) (s : Shared) (σ : St) (H : Hp) (E : Value → Shared → Prop), Inv X pins σ H s → (∀ b ∈ fp, FpOk X pins H b) → tn i s.heap → J.go i H →
    wpAny (model P w) X.A (pyNext (.ref it)) (fun r s1 => ∃ u, r = some u ∧
      wpAny (model P w) X.A (letOwnedTupleGo tg (.ref it) u) (fun _ s2 => ∃ x H', Inv X pins σ H' s2 ∧ RelV x u ∧ J.yld i H x H' ∧ tn (i + 1) s2.heap ∧ ∀ b ∈ fp, H' b = none) E s1) E s
  done : ∀ (X : Cx), X.prog = P → X.w = w → X.K = K → X.calm = true → ∀ (i : Nat) (pins : List (Addr × Obj)) (s : Shared) (σ : St) (H : Hp) (E : Value → Shared → Prop), Inv X pins σ H s → (∀ b ∈ fp, FpOk X pins H b) → tn i s.heap → J.stop i H →
    wpAny (model P w) X.A (pyNext (.ref it)) (fun r s1 => r = none ∧ Inv X pins σ H s1) E s
  self : ∀ (A : Around) (i : Nat) (s : Shared) (Q : Value → Shared → Prop) (E : Value → Shared → Prop), tn i s.heap → Q (.ref it) s → wpAny (model P w) A (pyIter (.ref it)) Q E s
abbrev TI := St → Hp → (It → Hp → Prop) → Prop
/-- an iterator has come -/
def PIE (X : Cx) (pins : List (Addr × Obj)) (σ : St) (tg : Expr) (R : It → Hp → Prop) (itv : Value) (s2 : Shared) : Prop :=
  ∃ (it : Addr) (fp : List Addr) (tn : Nat → Heap → Prop) (J : It) (H' : Hp), itv = .ref it ∧ Inv X pins σ H' s2 ∧ Turn X.prog X.w X.K tg J fp it tn ∧ tn 0 s2.heap ∧ (∀ b ∈ fp, FpOk X pins H' b) ∧ R J H'
def PI (X : Cx) (tg iter : Expr) (wi : TI) : Prop :=
  ∀ (pins : List (Addr × Obj)) (s : Shared) (σ : St) (H : Hp) (R : It → Hp → Prop), Inv X pins σ H s → wi σ H R →
    wpAny (model X.prog X.w) X.A (eval iter X.env) (fun v s1 => wpAny (model X.prog X.w) X.A (pyIter v) (PIE X pins σ tg R) X.xe s1) X.xe s

/-- the step ahead of the store is nothing for an iterator that keeps no tuple -/
theorem go_of {M : Model} {A : Around} {E : Value → Shared → Prop} {s : Shared} {tg : Expr} {it : Addr} {u : Value} {o : Obj} {n : String} {vs : Array Value} {Q : Unit → Shared → Prop} (ho : s.heap.get? it = some o) (hc : o.cls = .type n) (hd : o.data = .fields vs)
    (hn : ["enumerate", "zip", "dict_itemiterator", "dict_reverseitemiterator", "odict_iterator", "itertools.zip_longest", "itertools.pairwise"].contains n = false) (hQ : Q () s) : wpAny M A (letOwnedTupleGo tg (.ref it) u) Q E s := by
  unfold letOwnedTupleGo
  cases tg <;> first
    | exact wpAny_pure hQ
    | (cases u <;> first
        | exact wpAny_pure hQ
        | (refine wpAny_bind (wpAny_load ho ?_)
           rw [hc, hd]
           show wpAny M A (if (["enumerate", "zip", "dict_itemiterator", "dict_reverseitemiterator", "odict_iterator", "itertools.zip_longest", "itertools.pairwise"].contains n && vs[0]? == some (rawInt _)) = true then _ else _) Q E s
           rw [if_neg (by intro h; rw [hn, Bool.false_and] at h; cases h)]
           exact wpAny_pure hQ))

/-- the list at a, as it stands at each turn (a loop may append to it) -/
def Itl (K : PySem.W.Frag) (a : Addr) : It :=
  ⟨fun i H => ∃ xs x, SqL K H a xs ∧ xs[i]? = some x, fun i H x H' => H' = H ∧ ∀ xs, SqL K H a xs → xs[i]? = some x, fun i H => ∃ xs, SqL K H a xs ∧ xs.length ≤ i⟩
def Itt (K : PySem.W.Frag) (a : Addr) : It :=
  ⟨fun i H => ∃ xs x, SqT K H a xs ∧ xs[i]? = some x, fun i H x H' => H' = H ∧ ∀ xs, SqT K H a xs → xs[i]? = some x, fun i H => ∃ xs, SqT K H a xs ∧ xs.length ≤ i⟩
/-- lo, lo + 1, .. (n of them) -/
def Itr (lo : Int) (n : Nat) : It := ⟨fun i _ => i < n, fun i H x H' => H' = H ∧ x = .int (lo + i), fun i _ => n ≤ i⟩
theorem turn_range {P : Program} {w : World} {K : PySem.W.Frag} {tg : Expr} (it : Addr) (lo : Int) (n : Nat) : Turn P w K tg (Itr lo n) [it] it (fun i h => IsRangeIter h it (lo + (i : Nat) * 1) ((n : Int) - (i : Nat)) 1) where
  mem := by simp
  obj := fun i h st b hb => by
    have e : b = it := by simpa using hb
    subst e
    exact ⟨_, st, fun v z => by
      have z' : Data.fields _ = Data.cell v := z
      cases z'⟩
  keep := fun i h h' st k => k it (by simp) _ st
  item := by
    intro X hP hw hK hc i pins s σ H E I hf st hg
    subst hP hw hK
    obtain ⟨f0, f1, f2, f3, f4, f5⟩ := hf it (by simp)
    have W := Walks.range (prog := X.prog) (w := X.w) (I.ok.hd hc) it lo 1 n
    refine W.item i s _ _ hg st fun v h' tk hv st' kk => ?_
    obtain ⟨t, rfl⟩ := hv
    have I1 : Inv X pins σ H { s with heap := h', toks := tk } := I.turned (fun b o hb e => kk b o (by simpa using hb) e) f0 f1 f3 f4 f5
    refine ⟨_, rfl, go_of (s := { s with heap := h', toks := tk }) (n := "range_iterator") st' rfl rfl (by decide) ⟨.int (lo + i), H, I1, ⟨t, ?_⟩, ⟨rfl, rfl⟩, st', fun b hb => (hf b hb).1⟩⟩
    rw [Int.mul_one]
  done := by
    intro X hP hw hK hc i pins s σ H E I hf st hg
    subst hP hw hK
    obtain ⟨f0, f1, f2, f3, f4, f5⟩ := hf it (by simp)
    exact wpAny_pyNext_range_end (I.ok.hd hc) st (by have : n ≤ i := hg; omega) fun h' eb => ⟨rfl, I.turned (t' := s.toks) (fun b o hb e => eb b o hb e) f0 f1 f3 f4 f5⟩
  self := fun _ _ _ _ _ st h => wpAny_pyIter_rangeiter st h
end L2

namespace L2
open PySem PySem.Spec PyProof.Rows
section
variable {X : Cx} {tg : Expr}
def iList (K : PySem.W.Frag) (tl : TE) : TI := fun σ H R => tl σ H fun x H1 => ∃ a, x = .ref a ∧ (∃ xs, SqL K H1 a xs) ∧ R (Itl K a) H1
def iTup (K : PySem.W.Frag) (tl : TE) : TI := fun σ H R => tl σ H fun x H1 => ∃ a, x = .ref a ∧ (∃ xs, SqT K H1 a xs) ∧ R (Itt K a) H1
/-- a range object just made, walked -/
theorem range_it {pins : List (Addr × Obj)} {σ : St} {H : Hp} {s : Shared} {R : It → Hp → Prop} {E : Value → Shared → Prop} {lo hi : Int} {t u v : Tok} {tk : Nat} (I : Inv X pins σ H s) (h1 : -(2 ^ 62) ≤ lo) (h2 : lo < 2 ^ 62) (h3 : -(2 ^ 62) ≤ hi) (h4 : hi < 2 ^ 62)
    (q : R (Itr lo (hi - lo).toNat) H) : wpAny (model X.prog X.w) X.A (pyIter (.ref s.heap.objs.size)) (PIE X pins σ tg R) E { s with heap := s.heap.push { cls := .type "range", data := .fields #[.int lo t, .int hi u, .int 1 v] }, toks := tk } := by
  refine wpAny_pyIter_range (IsRange.new ..) (small_one h1 h2 h3 h4) ?_
  have I1 : Inv X pins σ H { s with heap := s.heap.push { cls := .type "range", data := .fields #[.int lo t, .int hi u, .int 1 v] }, toks := tk } := I.kept fun b o e => Heap.get?_push_of_some _ e
  refine ⟨(s.heap.push { cls := .type "range", data := .fields #[.int lo t, .int hi u, .int 1 v] }).objs.size, [(s.heap.push { cls := .type "range", data := .fields #[.int lo t, .int hi u, .int 1 v] }).objs.size], _, _, H, rfl,
    I1.kept (t' := tk) fun b o e => Heap.get?_push_of_some _ e, turn_range _ lo (hi - lo).toNat, ?_, fun b hb => ?_, q⟩
  · have e1 : lo + ((0 : Nat) : Int) * 1 = lo := by simp
    have e2 : (((hi - lo).toNat : Nat) : Int) - ((0 : Nat) : Int) = Builtin.Range.rangeSize lo hi 1 := by rw [rangeSize_one]; split <;> omega
    show IsRangeIter _ _ (lo + ((0 : Nat) : Int) * 1) ((((hi - lo).toNat : Nat) : Int) - ((0 : Nat) : Int)) 1
    rw [e1, e2]
    exact Heap.get?_push_size _ rfl
  · have e : b = (s.heap.push { cls := .type "range", data := .fields #[.int lo t, .int hi u, .int 1 v] }).objs.size := by simpa using hb
    subst e
    exact I1.fpOk (Nat.le_refl _) (I1.hok.fresh (Nat.le_refl _))
def iRng1 (ta : TA) : TI := fun σ H R => ta σ H fun vs H1 => ∃ j : Int, vs = [.int j] ∧ -(2 ^ 62) ≤ j ∧ j < 2 ^ 62 ∧ R (Itr 0 j.toNat) H1
def iRng2 (ta : TA) : TI := fun σ H R => ta σ H fun vs H1 => ∃ i j : Int, vs = [.int i, .int j] ∧ (-(2 ^ 62) ≤ i ∧ i < 2 ^ 62 ∧ -(2 ^ 62) ≤ j ∧ j < 2 ^ 62) ∧ R (Itr i (j - i).toNat) H1
/-! ### for -/
/-- W: the invariant by the turn and a measure; N: what the body is to reach -/
def tFor (wi : TI) (g : TG) (tb : TS) : TS := fun D σ H => wi σ H fun J H1 => ∃ W : Nat → Nat → St → Hp → Prop, (∃ m, W 0 m σ H1) ∧ ∀ i m σ H, W i m σ H →
  (J.stop i H ∧ D.nx σ H) ∨ (J.go i H ∧ ∃ N : St → Hp → Prop, (∀ σ' H', N σ' H' → ∃ m', m' < m ∧ W (i + 1) m' σ' H') ∧ ∀ x H', J.yld i H x H' → g x σ H' fun σ2 H2 => tb { D with nx := N, ct := N, bk := D.nx } σ2 H2)
/-- the records at fp as they stand -/
def pinsAt (fp : List Addr) (h : Heap) : List (Addr × Obj) := fp.filterMap fun b => (h.get? b).map fun o => (b, o)
theorem mem_pinsAt {fp : List Addr} {h : Heap} {b : Addr} {o : Obj} (hb : b ∈ fp) (e : h.get? b = some o) : (b, o) ∈ pinsAt fp h := List.mem_filterMap.mpr ⟨b, hb, by rw [e]; rfl⟩
theorem of_pinsAt {fp : List Addr} {h : Heap} {p : Addr × Obj} (hp : p ∈ pinsAt fp h) : p.1 ∈ fp ∧ h.get? p.1 = some p.2 := by
  obtain ⟨b, hb, e⟩ := List.mem_filterMap.mp hp
  cases q : h.get? b with
  | none => rw [q] at e; cases e
  | some o =>
    rw [q] at e
    have e' : (b, o) = p := Option.some.inj e
    subst e'
    exact ⟨hb, q⟩
theorem Inv.pinned {pins : List (Addr × Obj)} {σ : St} {H : Hp} {s : Shared} {fp : List Addr} (I : Inv X pins σ H s) (hf : ∀ b ∈ fp, FpOk X pins H b) (ho : ∀ b ∈ fp, ∃ o, s.heap.get? b = some o ∧ ∀ v, o.data ≠ .cell v) : Inv X (pins ++ pinsAt fp s.heap) σ H s :=
  I.pins_of fun p hp => (List.mem_append.mp hp).elim (fun z => I.pin p (List.mem_append_right _ z)) fun z => by
    obtain ⟨hb, e⟩ := of_pinsAt z
    obtain ⟨f0, f1, f2, _⟩ := hf p.1 hb
    obtain ⟨o, e', d⟩ := ho p.1 hb
    rw [e] at e'; cases e'
    exact ⟨e, f0, f1, f2, d⟩
theorem Inv.unpinned {pins pl : List (Addr × Obj)} {σ : St} {H : Hp} {s : Shared} (I : Inv X (pins ++ pl) σ H s) : Inv X pins σ H s := I.pins_of fun p hp => I.pin p (List.mem_append_right _ (List.mem_append_left _ hp))
theorem ps_for {iter : Expr} {body : List Stmt} {wi : TI} {g : TG} {tb : TS} {pos : Pos} (hp : PassesOwn (model X.prog X.w) X.A X.env X.xe) (hc : X.calm = true) (hi : PI X tg iter wi) (hg : PG X tg g) (hb : PSs X body tb)
    (hs : ∀ x, foldedSetIterable iter X.env x = pure x := by intro _; rfl) : PS X (.For tg iter body [] pos) (tFor wi g tb) := by
  intro pins s σ H D I h
  refine wpAny_For (thn (hi pins s σ H _ I h) fun v s1 h1 => thn h1 fun itv s2 h2 => ?_) hs
  obtain ⟨it, fp, tn, J, H2, e, I2, T, st2, f2, W, ⟨m0, w0⟩, turn⟩ := h2
  subst e
  -- what stays true of the iterator's objects through the loop
  have stat : ∀ {H' : Hp}, (∀ b ∈ fp, H' b = none) → ∀ b ∈ fp, FpOk X pins H' b := fun hn b hb => ⟨hn b hb, (f2 b hb).2⟩
  refine codeAny_forLoop_any (fun n s' => ∃ i σ' H', Inv X pins σ' H' s' ∧ tn i s'.heap ∧ (∀ b ∈ fp, H' b = none) ∧ W i n σ' H') ?_ m0 ⟨0, σ, H2, I2, st2, fun b hb => (f2 b hb).1, w0⟩
  rintro n s3 ⟨i, σ3, H3, I3, st3, fr3, w3⟩
  rcases turn i n σ3 H3 w3 with ⟨stop, qn⟩ | ⟨go, N, hN, step⟩
  · refine wpAny_passesOwn hp (thn (T.done X rfl rfl rfl hc i pins s3 σ3 H3 X.xe I3 (stat fr3) st3 stop) fun r s4 ⟨hr, I4⟩ => ?_)
    subst hr
    exact wpAny_execs_nil ⟨σ3, H3, I4, qn⟩
  · refine wpAny_passesOwn hp (thn (T.item X rfl rfl rfl hc i pins s3 σ3 H3 X.xe I3 (stat fr3) st3 go) fun r s4 ⟨u, hr, h4⟩ => ?_)
    subst hr
    refine wpAny_passesOwn hp (thn h4 fun _ s5 ⟨x, H5, I5, r5, y5, st5, fr5⟩ => ?_)
    have I5' := I5.pinned (stat fr5) (T.obj _ _ st5)
    refine wpAny_passesOwn hp (thn (hg _ s5 σ3 H5 x u _ I5' r5 (step x H5 y5)) fun _ s6 ⟨σ6, H6, I6, q6⟩ => ?_)
    refine wpAny_passesOwn hp (thn (hb _ s6 σ6 H6 _ I6 q6) fun f s7 q7 => ?_)
    have again : ∀ {σ7 : St} {H7 : Hp}, Inv X (pins ++ pinsAt fp s5.heap) σ7 H7 s7 → N σ7 H7 → ∃ m, m < n ∧ ∃ i σ' H', Inv X pins σ' H' s7 ∧ tn i s7.heap ∧ (∀ b ∈ fp, H' b = none) ∧ W i m σ' H' := fun {σ7 H7} I7 n7 => by
      obtain ⟨m', hm, w7⟩ := hN σ7 H7 n7
      refine ⟨m', hm, i + 1, σ7, H7, I7.unpinned, T.keep _ _ _ st5 fun b hb o e => (I7.pin (b, o) (List.mem_append_right _ (List.mem_append_right _ (mem_pinsAt hb e)))).1, fun b hb => ?_, w7⟩
      obtain ⟨o, e, d⟩ := T.obj _ _ st5 b hb
      exact (I7.pin (b, o) (List.mem_append_right _ (List.mem_append_right _ (mem_pinsAt hb e)))).2.1
    cases f with
    | next => obtain ⟨σ7, H7, I7, n7⟩ := q7; exact again I7 n7
    | cont => obtain ⟨σ7, H7, I7, n7⟩ := q7; exact again I7 n7
    | brk => obtain ⟨σ7, H7, I7, q7⟩ := q7; exact ⟨σ7, H7, I7.unpinned, q7⟩
    | ret v => obtain ⟨x7, σ7, H7, I7, r7, q7⟩ := q7; exact ⟨x7, σ7, H7, I7.unpinned, r7, q7⟩
end

/-! ### the forms one uses -/
theorem for_range {lo : Int} {n : Nat} {g : TG} {tb : TS} {D : Ends} {σ : St} {H : Hp} (Pv : Nat → St → Hp → Prop) (h0 : Pv 0 σ H)
    (hs : ∀ i σ H, i < n → Pv i σ H → g (.int (lo + i)) σ H fun σ2 H2 => tb { D with nx := Pv (i + 1), ct := Pv (i + 1), bk := D.nx } σ2 H2) (hd : ∀ σ H, Pv n σ H → D.nx σ H) :
    ∃ W : Nat → Nat → St → Hp → Prop, (∃ m, W 0 m σ H) ∧ ∀ i m σ H, W i m σ H →
      ((Itr lo n).stop i H ∧ D.nx σ H) ∨ ((Itr lo n).go i H ∧ ∃ N : St → Hp → Prop, (∀ σ' H', N σ' H' → ∃ m', m' < m ∧ W (i + 1) m' σ' H') ∧ ∀ x H', (Itr lo n).yld i H x H' → g x σ H' fun σ2 H2 => tb { D with nx := N, ct := N, bk := D.nx } σ2 H2) := by
  refine ⟨fun i m σ H => m = n - i ∧ i ≤ n ∧ Pv i σ H, ⟨n, by simp, Nat.zero_le _, h0⟩, ?_⟩
  rintro i m σ H ⟨rfl, hi, p⟩
  by_cases hlt : i < n
  · refine .inr ⟨hlt, Pv (i + 1), fun σ' H' p' => ⟨n - (i + 1), by omega, rfl, hlt, p'⟩, fun x H' y => ?_⟩
    obtain ⟨e, y⟩ := y
    subst e y
    exact hs i σ _ hlt p
  · have e : i = n := by omega
    subst e
    exact .inl ⟨Nat.le_refl _, hd σ H p⟩
end L2

namespace L2
open PySem PySem.Spec PyProof.Rows

abbrev R2 := V → V → Hp → VK → Prop
/-- a two-place operation on values: f is binaryOp op, inplaceOp op or compareOp op -/
def OpR (X : Cx) (f : Value → Value → Sem Value) (r : R2) : Prop :=
  ∀ (pins : List (Addr × Obj)) (s : Shared) (σ : St) (H : Hp) (x y : V) (v u : Value) (Q : VK), Inv X pins σ H s → RelV x v → RelV y u → r x y H Q →
    wpAny (model X.prog X.w) X.A (f v u) (EP X pins σ Q) X.xe s
/-- a one-place operation -/
def UnR (X : Cx) (f : Value → Sem Value) (r : V → Hp → VK → Prop) : Prop :=
  ∀ (pins : List (Addr × Obj)) (s : Shared) (σ : St) (H : Hp) (x : V) (v : Value) (Q : VK), Inv X pins σ H s → RelV x v → r x H Q →
    wpAny (model X.prog X.w) X.A (f v) (EP X pins σ Q) X.xe s
/-- a call of a value that is known (a builtin, a type) with values -/
def CallR (X : Cx) (f : Value) (r : List V → Hp → VK → Prop) : Prop :=
  ∀ (pins : List (Addr × Obj)) (s : Shared) (σ : St) (H : Hp) (xs : List V) (us : List Value) (Q : VK), Inv X pins σ H s → Vals xs us → r xs H Q →
    wpAny (model X.prog X.w) X.A (call f us) (EP X pins σ Q) X.xe s
/-- a value's truth -/
def TruR (X : Cx) (r : V → Hp → (Bool → Hp → Prop) → Prop) : Prop :=
  ∀ (pins : List (Addr × Obj)) (s : Shared) (σ : St) (H : Hp) (x : V) (v : Value) (Q : Bool → Hp → Prop), Inv X pins σ H s → RelV x v → r x H Q →
    wpAny (model X.prog X.w) X.A (truthy v) (TP X pins σ Q) X.xe s

def tOp (r : R2) (ta tb : TE) : TE := fun σ H Q => ta σ H fun x H1 => tb σ H1 fun y H2 => r x y H2 Q
def tUn (r : V → Hp → VK → Prop) (ta : TE) : TE := fun σ H Q => ta σ H fun x H1 => r x H1 Q
/-- ints in, under C, and a value out -/
def rI (C : Int → Int → Prop) (g : Int → Int → V) : R2 := fun x y H Q => ∃ i j, x = .int i ∧ y = .int j ∧ C i j ∧ Q (g i j) H
def rI0 (g : Int → Int → V) : R2 := fun x y H Q => ∃ i j, x = .int i ∧ y = .int j ∧ Q (g i j) H
def rU (g : Int → V) : V → Hp → VK → Prop := fun x H Q => ∃ i, x = .int i ∧ Q (g i) H

section
variable {X : Cx} {a b c : Expr} {ta tb tc : TE} {pos : Pos}

theorem binT (ha : PE X a ta) (hb : PE X b tb) {pins : List (Addr × Obj)} {s : Shared} {σ : St} {H : Hp} {R : V → V → Hp → Prop} (I : Inv X pins σ H s)
    (h : ta σ H fun x H1 => tb σ H1 fun y H2 => R x y H2) {Q : Value → Shared → Prop} {f : Value → Value → Sem Value}
    (hf : ∀ v u s2 x y H2, Inv X pins σ H2 s2 → RelV x v → RelV y u → R x y H2 → wpAny (model X.prog X.w) X.A (f v u) Q X.xe s2) :
    wpAny (model X.prog X.w) X.A (eval a X.env) (fun v s₁ => wpAny (model X.prog X.w) X.A (eval b X.env) (fun u s₂ => wpAny (model X.prog X.w) X.A (f v u) Q X.xe s₂) X.xe s₁) X.xe s := by
  refine thn (ha pins s σ H _ I h) fun v s1 ⟨x, H1, I1, r1, q1⟩ => ?_
  refine thn (hb pins s1 σ H1 _ I1 q1) fun u s2 ⟨y, H2, I2, r2, q2⟩ => ?_
  exact hf v u s2 x y H2 I2 r1 r2 q2

theorem pe_op {op : Operator} {r : R2} (ho : OpR X (binaryOp op) r) (ha : PE X a ta) (hb : PE X b tb) : PE X (.BinOp a op b pos) (tOp r ta tb) := by
  intro pins s σ H Q I h
  exact wpAny_BinOp (binT ha hb I h fun v u s2 x y H2 I2 rx ry q => ho pins s2 σ H2 x y v u Q I2 rx ry q)
/-! ### ints -/
theorem opI {f : Value → Value → Sem Value} {C : Int → Int → Prop} {g : Int → Int → Int}
    (rule : ∀ (i j : Int) (t u : Tok) (s : Shared) (Q : Value → Shared → Prop) (E : Value → Shared → Prop), C i j → Q (.int (g i j) s.toks) { s with toks := s.toks + 1 } → wpAny (model X.prog X.w) X.A (f (.int i t) (.int j u)) Q E s) :
    OpR X f (rI C fun i j => .int (g i j)) := by
  intro pins s σ H x y v u Q I rx ry h
  obtain ⟨i, j, rfl, rfl, hc, q⟩ := h
  obtain ⟨t, rfl⟩ := rx
  obtain ⟨t', rfl⟩ := ry
  exact rule i j t t' s _ _ hc ⟨.int (g i j), H, I.tok _, ⟨_, rfl⟩, q⟩
theorem opI0 {f : Value → Value → Sem Value} {g : Int → Int → Int}
    (rule : ∀ (i j : Int) (t u : Tok) (s : Shared) (Q : Value → Shared → Prop) (E : Value → Shared → Prop), Q (.int (g i j) s.toks) { s with toks := s.toks + 1 } → wpAny (model X.prog X.w) X.A (f (.int i t) (.int j u)) Q E s) :
    OpR X f (rI0 fun i j => .int (g i j)) := by
  intro pins s σ H x y v u Q I rx ry h
  obtain ⟨i, j, rfl, rfl, q⟩ := h
  obtain ⟨t, rfl⟩ := rx
  obtain ⟨t', rfl⟩ := ry
  exact rule i j t t' s _ _ ⟨.int (g i j), H, I.tok _, ⟨_, rfl⟩, q⟩
theorem opB0 {f : Value → Value → Sem Value} {g : Int → Int → Bool}
    (rule : ∀ (i j : Int) (t u : Tok) (s : Shared) (Q : Value → Shared → Prop) (E : Value → Shared → Prop), Q (.bool (g i j)) s → wpAny (model X.prog X.w) X.A (f (.int i t) (.int j u)) Q E s) :
    OpR X f (rI0 fun i j => .bl (g i j)) := by
  intro pins s σ H x y v u Q I rx ry h
  obtain ⟨i, j, rfl, rfl, q⟩ := h
  obtain ⟨t, rfl⟩ := rx
  obtain ⟨t', rfl⟩ := ry
  exact rule i j t t' s _ _ ⟨.bl (g i j), H, I, rfl, q⟩

def CDiv (i j : Int) : Prop := 0 < j ∧ j < 1073741824
def CDivN (i j : Int) : Prop := j ≠ 0 ∧ j.natAbs < 1073741824
def CPow (i j : Int) : Prop := 0 ≤ j ∧ j ≤ 1000000 ∧ i.natAbs < 2 ^ 64
def CMul (i j : Int) : Prop := (-(2 ^ 64) < i ∧ i < 2 ^ 64) ∨ (-(2 ^ 64) < j ∧ j < 2 ^ 64)
theorem CMul.ok {i j : Int} (h : CMul i j) : IntMulOk i j := by
  rcases h with ⟨h1, h2⟩ | ⟨h1, h2⟩
  · exact .of_left (intBits_le_64 h1 h2)
  · exact .of_right (intBits_le_64 h1 h2)
theorem op_add : OpR X (binaryOp .Add) (rI0 fun i j => .int (i + j)) := opI0 fun _ _ _ _ _ _ _ q => add_int q
theorem op_sub : OpR X (binaryOp .Sub) (rI0 fun i j => .int (i - j)) := opI0 fun _ _ _ _ _ _ _ q => sub_int q
theorem op_mul : OpR X (binaryOp .Mult) (rI CMul fun i j => .int (i * j)) := opI fun _ _ _ _ _ _ _ hc q => mul_int q hc.ok
/-- // by a positive divisor -/
theorem op_fdiv : OpR X (binaryOp .FloorDiv) (rI CDiv fun i j => .int (i / j)) := opI fun i j _ _ _ _ _ hc q => by
  have h1 : (0 : Int) < j := hc.1
  have h2 : j < 1073741824 := hc.2
  exact floordiv_int (by omega) (by rw [Int.fdiv_eq_ediv_of_nonneg i (by omega)]; exact q) (.inl (PyProof.noPylong_small (by omega)))
/-- % by a positive divisor of any size -/
theorem op_mod : OpR X (binaryOp .Mod) (rI (fun _ j => 0 < j) fun i j => .int (i % j)) := opI fun i j _ _ _ _ _ hc q => by
  have h1 : (0 : Int) < j := hc
  exact mod_int' (by omega) (by rw [Int.fmod_eq_emod_of_nonneg i (by omega)]; exact q)
theorem op_pow : OpR X (binaryOp .Pow) (rI CPow fun i j => .int (i ^ j.toNat)) := opI fun _ _ _ _ _ _ _ hc q => pow_int_small hc.1 hc.2.1 hc.2.2 q
/-! ### bools among ints: n += (a < b) -/
end

/-! ### comparisons -/
/-- the scalars that == tells apart as data does -/
def scal : V → V → Bool
  | .non, .non => true | .non, .int _ => true | .int _, .non => true | .non, .bl _ => true | .bl _, .non => true | .non, .str _ => true | .str _, .non => true
  | .int _, .int _ => true | .bl _, .bl _ => true | .str _, .str _ => true | .byt _, .byt _ => true
  | .int _, .str _ => true | .str _, .int _ => true | .bl _, .str _ => true | .str _, .bl _ => true
  | _, _ => false
def rEq : R2 := fun x y H Q => scal x y = true ∧ Q (.bl (decide (x = y))) H
def rNe : R2 := fun x y H Q => scal x y = true ∧ Q (.bl (!decide (x = y))) H

theorem dec_int {i j : Int} : decide (V.int i = V.int j) = (i == j) := by
  rw [Bool.eq_iff_iff]
  simp
theorem dec_bl {i j : Bool} : decide (V.bl i = V.bl j) = (i == j) := by
  rw [Bool.eq_iff_iff]
  simp
theorem dec_str {i j : Str} : decide (V.str i = V.str j) = (i == j) := by
  rw [Bool.eq_iff_iff]
  simp
theorem dec_byt {i j : Array UInt8} : decide (V.byt i = V.byt j) = (i.toList == j.toList) := by
  rw [Bool.eq_iff_iff]
  cases i
  cases j
  simp

section
variable {X : Cx} {a b c : Expr} {ta tb tc : TE} {pos : Pos}
theorem fin_bl {pins : List (Addr × Obj)} {σ : St} {H : Hp} {s : Shared} {Q : VK} {k k' : Bool} (I : Inv X pins σ H s) (q : Q (.bl k) H) (e : k = k') : EP X pins σ Q (.bool k') s := by
  subst e
  exact ⟨.bl k, H, I, rfl, q⟩
theorem op_eq : OpR X (compareOp .Eq) rEq := by
  intro pins s σ H x y v u Q I rx ry h
  obtain ⟨hs, q⟩ := h
  cases x with
  | non =>
    cases rx
    cases y with
    | non => cases ry; exact PySem.EqNone.eq_none_none (fin_bl I q (by simp))
    | bl j => cases ry; exact PySem.EqNone.eq_none_bool (fin_bl I q (by simp))
    | int j => obtain ⟨t', rfl⟩ := ry; exact PySem.EqNone.eq_none_int (fin_bl I q (by simp))
    | str j => obtain ⟨t', rfl⟩ := ry; exact PySem.EqNone.eq_none_str (fin_bl I q (by simp))
    | _ => exact absurd (show false = true from hs) Bool.false_ne_true
  | bl i =>
    cases rx
    cases y with
    | non => cases ry; exact PySem.EqNone.eq_bool_none (fin_bl I q (by simp))
    | bl j => cases ry; exact eq_bool (fin_bl I q dec_bl)
    | str j => obtain ⟨t', rfl⟩ := ry; exact PySem.EqMixed.eq_bool_str (fin_bl I q (by simp))
    | _ => exact absurd (show false = true from hs) Bool.false_ne_true
  | int i =>
    obtain ⟨t, rfl⟩ := rx
    cases y with
    | non => cases ry; exact PySem.EqNone.eq_int_none (fin_bl I q (by simp))
    | int j => obtain ⟨t', rfl⟩ := ry; exact eq_int (fin_bl I q dec_int)
    | str j => obtain ⟨t', rfl⟩ := ry; exact PySem.EqMixed.eq_int_str (fin_bl I q (by simp))
    | _ => exact absurd (show false = true from hs) Bool.false_ne_true
  | str i =>
    obtain ⟨t, rfl⟩ := rx
    cases y with
    | non => cases ry; exact PySem.EqNone.eq_str_none (fin_bl I q (by simp))
    | bl j => cases ry; exact PySem.EqMixed.eq_str_bool (fin_bl I q (by simp))
    | int j => obtain ⟨t', rfl⟩ := ry; exact PySem.EqMixed.eq_str_int (fin_bl I q (by simp))
    | str j => obtain ⟨t', rfl⟩ := ry; exact eq_str (fin_bl I q dec_str)
    | _ => exact absurd (show false = true from hs) Bool.false_ne_true
  | byt i =>
    obtain ⟨t, rfl⟩ := rx
    cases y with
    | byt j => obtain ⟨t', rfl⟩ := ry; exact PySem.W.eq_bytes (fin_bl I q dec_byt)
    | _ => exact absurd (show false = true from hs) Bool.false_ne_true
  | _ => cases y <;> exact absurd (show false = true from hs) Bool.false_ne_true
theorem op_ne : OpR X (compareOp .NotEq) rNe := by
  intro pins s σ H x y v u Q I rx ry h
  obtain ⟨hs, q⟩ := h
  cases x with
  | non =>
    cases rx
    cases y with
    | non => cases ry; exact PySem.EqNone.ne_none_none (fin_bl I q (by simp))
    | bl j => cases ry; exact PySem.EqNone.ne_none_bool (fin_bl I q (by simp))
    | int j => obtain ⟨t', rfl⟩ := ry; exact PySem.EqNone.ne_none_int (fin_bl I q (by simp))
    | str j => obtain ⟨t', rfl⟩ := ry; exact PySem.EqNone.ne_none_str (fin_bl I q (by simp))
    | _ => exact absurd (show false = true from hs) Bool.false_ne_true
  | bl i =>
    cases rx
    cases y with
    | non => cases ry; exact PySem.EqNone.ne_bool_none (fin_bl I q (by simp))
    | bl j => cases ry; exact ne_bool (fin_bl I q (congrArg not dec_bl))
    | str j => obtain ⟨t', rfl⟩ := ry; exact PySem.EqMixed.ne_bool_str (fin_bl I q (by simp))
    | _ => exact absurd (show false = true from hs) Bool.false_ne_true
  | int i =>
    obtain ⟨t, rfl⟩ := rx
    cases y with
    | non => cases ry; exact PySem.EqNone.ne_int_none (fin_bl I q (by simp))
    | int j => obtain ⟨t', rfl⟩ := ry; exact ne_int (fin_bl I q (congrArg not dec_int))
    | str j => obtain ⟨t', rfl⟩ := ry; exact PySem.EqMixed.ne_int_str (fin_bl I q (by simp))
    | _ => exact absurd (show false = true from hs) Bool.false_ne_true
  | str i =>
    obtain ⟨t, rfl⟩ := rx
    cases y with
    | non => cases ry; exact PySem.EqNone.ne_str_none (fin_bl I q (by simp))
    | bl j => cases ry; exact PySem.EqMixed.ne_str_bool (fin_bl I q (by simp))
    | int j => obtain ⟨t', rfl⟩ := ry; exact PySem.EqMixed.ne_str_int (fin_bl I q (by simp))
    | str j => obtain ⟨t', rfl⟩ := ry; exact ne_str (fin_bl I q (congrArg not dec_str))
    | _ => exact absurd (show false = true from hs) Bool.false_ne_true
  | byt i =>
    obtain ⟨t, rfl⟩ := rx
    cases y with
    | byt j => obtain ⟨t', rfl⟩ := ry; exact PySem.W.ne_bytes (fin_bl I q (congrArg not dec_byt))
    | _ => exact absurd (show false = true from hs) Bool.false_ne_true
  | _ => cases y <;> exact absurd (show false = true from hs) Bool.false_ne_true

theorem op_lt : OpR X (compareOp .Lt) (rI0 fun i j => .bl (decide (i < j))) := opB0 fun _ _ _ _ _ _ _ q => lt_int q
theorem op_gt : OpR X (compareOp .Gt) (rI0 fun i j => .bl (decide (j < i))) := opB0 fun _ _ _ _ _ _ _ q => gt_int q
/-- is, is not of two objects that are tracked lists or instances -/
def isObj : HO → Bool
  | .lst _ => true
  | .ins _ _ _ => true
  | _ => false
/-- two rules for one operation: by cases -/
theorem OpR.or {f : Value → Value → Sem Value} {r r' : R2} (h : OpR X f r) (h' : OpR X f r') : OpR X f (fun x y H Q => r x y H Q ∨ r' x y H Q) := by
  intro pins s σ H x y v u Q I rx ry q
  rcases q with q | q
  · exact h pins s σ H x y v u Q I rx ry q
  · exact h' pins s σ H x y v u Q I rx ry q

theorem nomark (b : Expr) {op : CmpOp} (h : op ≠ .In := by decide) (h2 : op ≠ .NotIn := by decide) : behindInMarks op b = false := by
  have e1 : (op == CmpOp.In) = false := by cases op <;> first | rfl | exact absurd rfl h
  have e2 : (op == CmpOp.NotIn) = false := by cases op <;> first | rfl | exact absurd rfl h2
  cases b <;> simp [behindInMarks, e1, e2]
/-- a comparison as a value; hm: nomark b, or (for in, not in) by with_unfolding_all rfl -/
theorem pe_cmpR {op : CmpOp} {r : R2} (ho : OpR X (compareOp op) r) (ha : PE X a ta) (hb : PE X b tb) (hm : behindInMarks op b = false) : PE X (.Compare a [op] [b] pos) (tOp r ta tb) := by
  intro pins s σ H Q I h
  exact wpAny_Compare1 (binT ha hb I h fun v u s2 x y H2 I2 rx ry q => ho pins s2 σ H2 x y v u Q I2 rx ry q) hm
/-- a reading of a value as a test -/
def tTest (t : TE) : TT := fun σ H Q => t σ H fun x H' => ∃ k, x = .bl k ∧ Q k H'
/-- a op1 b op2 c -/
def tChain (r r' : R2) (ta tb tc : TE) : TE := fun σ H Q => ta σ H fun x H1 => tb σ H1 fun y H2 => r x y H2 fun z H3 => ∃ k, z = .bl k ∧
  (if k = true then tc σ H3 fun w' H4 => r' y w' H4 Q else Q (.bl false) H3)
/-! ### truth -/
/-- a value's truth by the abstract heap -/
def TruV (K : PySem.W.Frag) (x : V) (H : Hp) (k : Bool) : Prop :=
  match x with
  | .non => k = false
  | .bl b => k = b
  | .int i => k = (i != 0)
  | .str y => y.length ≤ sizeLine ∧ k = ((y.length : Int) != 0)
  | .byt y => y.size ≤ sizeLine ∧ k = ((y.size : Int) != 0)
  | .ref p => (∃ xs, SqL K H p xs ∧ k = !xs.isEmpty) ∨ (∃ xs, SqT K H p xs ∧ k = !xs.isEmpty) ∨ ∃ kvs, H p = some (.dK kvs) ∧ k = !kvs.isEmpty
  | _ => False
theorem isEmpty_kv {κ : Type} {kvs : List (κ × V)} {vs : List (κ × Value)} (r : KV kvs vs) : (!vs.isEmpty) = !kvs.isEmpty := by
  cases r <;> rfl
theorem isEmpty_of {xs : List V} {its : List Value} (r : Vals xs its) : (!its.toArray.isEmpty) = !xs.isEmpty := by
  cases r <;> simp
theorem line63 : (sizeLine : Nat) < 2 ^ 63 := by rw [sizeLine_eq]; decide
theorem tru_ok : TruR X (fun x H Q => ∃ k, TruV X.K x H k ∧ Q k H) := by
  intro pins s σ H x v Q I rx h
  obtain ⟨k, e, q⟩ := h
  have hl := line63
  have hs : sizeLine = 16777216 := sizeLine_eq
  cases x with
  | non =>
    cases rx
    have e' : k = false := e
    subst e'
    exact truthy_none ⟨H, I, q⟩
  | bl b =>
    cases rx
    have e' : k = b := e
    subst e'
    exact wpAny_truthy_bool ⟨H, I, q⟩
  | int i =>
    obtain ⟨t, rfl⟩ := rx
    have e' : k = (i != 0) := e
    subst e'
    exact PySem.P.truthy_int ⟨H, I, q⟩
  | str y =>
    obtain ⟨t, rfl⟩ := rx
    obtain ⟨hy, e'⟩ : y.length ≤ sizeLine ∧ k = ((y.length : Int) != 0) := e
    subst e'
    exact PySem.P.truthy_str (by omega) ⟨H, I.tok _, q⟩
  | byt y =>
    obtain ⟨t, rfl⟩ := rx
    obtain ⟨hy, e'⟩ : y.size ≤ sizeLine ∧ k = ((y.size : Int) != 0) := e
    subst e'
    exact PySem.W.truthy_bytes (by omega) ⟨H, I.tok _, q⟩
  | ref p =>
    cases rx
    have e' : (∃ xs, SqL X.K H p xs ∧ k = !xs.isEmpty) ∨ (∃ xs, SqT X.K H p xs ∧ k = !xs.isEmpty) ∨ ∃ kvs, H p = some (.dK kvs) ∧ k = !kvs.isEmpty := e
    rcases e' with ⟨xs, hx, e'⟩ | ⟨xs, hx, e'⟩ | ⟨kvs, hx, e'⟩
    · subst e'
      obtain ⟨its, r, pl, hz⟩ := I.list hx
      have hlen := r.length
      exact wpAny_truthy_list pl.isList (by simp only [List.size_toArray]; omega) ⟨H, I.tok _, by rw [isEmpty_of r]; exact q⟩
    · subst e'
      obtain ⟨its, r, pl, hz⟩ := I.tuple hx
      have hlen := r.length
      exact truthy_tuple pl (by simp only [List.size_toArray]; omega) ⟨H, I.tok _, by rw [isEmpty_of r]; exact q⟩
    · subst e'
      obtain ⟨hz, hS, vs, r, m⟩ : kvs.length ≤ sizeLine ∧ (p == sysModules) = false ∧ ∃ vs, KV kvs vs ∧ s.heap.DictOf (mixKind X.prog X.w) p vs := I.hok p _ hx
      have hlen : kvs.length = vs.length := Paired.length r
      exact wpAny_truthy_dict hS m (by omega) ⟨H, I.tok _, by rw [isEmpty_kv r]; exact q⟩
  | _ => exact (show False from e).elim
/-! ### strs and bytes -/
theorem op_add_str : OpR X (binaryOp .Add) (fun x y H Q => ∃ i j, x = .str i ∧ y = .str j ∧ i.length + j.length ≤ sizeLine ∧ Q (.str (i ++ j)) H) := by
  intro pins s σ H x y v u Q I rx ry h
  obtain ⟨i, j, rfl, rfl, hz, q⟩ := h
  obtain ⟨t, rfl⟩ := rx
  obtain ⟨t', rfl⟩ := ry
  exact add_str (fun t' tk => ⟨.str (i ++ j), H, I.tok _, ⟨_, rfl⟩, q⟩) hz
def PlainIxT (b : Expr) : Prop := ∀ o i, subscripted b false o i = operate [o, i] (getItem o i)
/-! ### scalar builtins, by CallR -/
theorem vals1 {x : V} {us : List Value} (r : Vals [x] us) : ∃ u, us = [u] ∧ RelV x u := by
  cases r with
  | cons r1 r2 => cases r2; exact ⟨_, rfl, r1⟩
theorem vals2 {x y : V} {us : List Value} (r : Vals [x, y] us) : ∃ u w', us = [u, w'] ∧ RelV x u ∧ RelV y w' := by
  cases r with
  | cons r1 r2 =>
    cases r2 with
    | cons r3 r4 => cases r4; exact ⟨_, _, rfl, r1, r3⟩
theorem call_max2 (hc : X.calm = true) : CallR X (.builtin "max") (fun xs H Q => ∃ i j, xs = [.int i, .int j] ∧ Q (.int (if j > i then j else i)) H) := by
  intro pins s σ H xs us Q I r h
  obtain ⟨i, j, rfl, q⟩ := h
  obtain ⟨u, w', rfl, ⟨t, rfl⟩, ⟨t', rfl⟩⟩ := vals2 r
  refine max_two_ints (I.ok.hd hc) fun h' tk k => ⟨_, H, I.kept k, ?_, q⟩
  by_cases hj : j > i
  · rw [if_pos hj, if_pos hj]; exact ⟨_, rfl⟩
  · rw [if_neg hj, if_neg hj]; exact ⟨_, rfl⟩
theorem call_min2 (hc : X.calm = true) : CallR X (.builtin "min") (fun xs H Q => ∃ i j, xs = [.int i, .int j] ∧ Q (.int (if j < i then j else i)) H) := by
  intro pins s σ H xs us Q I r h
  obtain ⟨i, j, rfl, q⟩ := h
  obtain ⟨u, w', rfl, ⟨t, rfl⟩, ⟨t', rfl⟩⟩ := vals2 r
  refine min_two_ints (I.ok.hd hc) fun h' tk k => ⟨_, H, I.kept k, ?_, q⟩
  by_cases hj : j < i
  · rw [if_pos hj, if_pos hj]; exact ⟨_, rfl⟩
  · rw [if_neg hj, if_neg hj]; exact ⟨_, rfl⟩
/-- len of a str, a bytes, a list, a tuple -/
def LenV (K : PySem.W.Frag) (x : V) (H : Hp) (n : Nat) : Prop :=
  match x with
  | .str y => y.length ≤ sizeLine ∧ n = y.length
  | .byt y => y.size ≤ sizeLine ∧ n = y.size
  | .ref p => (∃ xs, SqL K H p xs ∧ n = xs.length) ∨ ∃ xs, SqT K H p xs ∧ n = xs.length
  | _ => False
end
end L2

namespace L2
open PySem PySem.Spec PyProof.Rows

/-! ### an instance, its attributes a map -/
structure ObjM (h : Heap) (x dx C : Addr) (mA : Str → Option Value) : Prop where
  obj : h.get? x = some (PySem.W.instObj C dx)
  ns : h.Ns1 dx mA
  ne : dx ≠ x

theorem lookIn_ns {h : Heap} {dx : Addr} {mA : Str → Option Value} (n : h.Ns1 dx mA) : ∃ od, h.get? dx = some od ∧ ∀ name, PySem.W.lookIn name od = some (mA name) := by
  obtain ⟨o, es, ep, ho, hd, hk, _, hm⟩ := n
  refine ⟨o, ho, fun name => ?_⟩
  have e := hm name
  unfold nsFind findBy at e
  rw [← Array.find?_toList] at e
  unfold PySem.W.lookIn
  rw [hd]
  dsimp only
  split
  · rename_i y q
    rw [q] at e
    exact congrArg some e
  · rename_i q
    rw [q] at e
    have a : es.toList.any (·.refKey) = false := by
      rw [List.any_eq_false]
      intro y hy
      obtain ⟨z, t, hkey⟩ := hk y (Array.mem_toList_iff.mp hy)
      simp [DictEntry.refKey, hkey]
    have a' : ¬ es.toList.any (·.refKey) = true := by rw [a]; exact Bool.false_ne_true
    rw [if_neg a']
    exact congrArg some e

theorem ObjM.look {h : Heap} {x dx C : Addr} {mA : Str → Option Value} (I : ObjM h x dx C mA) : ∃ od, PySem.W.InstAt h x (PySem.W.instObj C dx) C (some od) ∧ ∀ name, PySem.W.lookIn name od = some (mA name) :=
  let ⟨od, ho, hl⟩ := lookIn_ns I.ns
  ⟨od, ⟨I.obj, rfl, rfl, ho⟩, hl⟩

section
variable {prog : Program} {w : World} {A : Around} {E : Value → Shared → Prop} {s : Shared} {K : PySem.W.Frag} {x dx C f : Addr} {mA : Str → Option Value} {name : Str} {v : Value}

theorem get_map {expr : Bool} {Q : Value → Shared → Prop} (X : K.In s.heap) (I : ObjM s.heap x dx C mA) (hg : PySem.W.plainGet K C name = true) (hh : PySem.W.hasDictIn K C = true)
    (ha : PySem.W.findIn K (.ref C) name = some none) (hv : mA name = some v) (hv' : PySem.W.handedIn v = true) (h : Q v { s with toks := s.toks + 1 }) :
    wpAny (model prog w) A (getAttr (.ref x) name expr) Q E s := by
  obtain ⟨od, J, hl⟩ := I.look
  exact PySem.W.get_value X J (PySem.W.plainGet_of hg).1 (PySem.W.findObj_own hh ha rfl (by rw [hl, hv])) hv' h

theorem get_meth {pl : Sem Bool} {Q : Value × List Value → Shared → Prop} (X : K.In s.heap) (I : ObjM s.heap x dx C mA) (hg : PySem.W.plainGet K C name = true)
    (hf : PySem.W.findIn K (.ref C) name = some (some (.ref f))) (ht : PySem.W.isFn K (.ref f) = true) (hv : mA name = none) (h : Q (.ref f, [.ref x]) s) :
    wpAny (model prog w) A (getMethod (.ref x) name pl) Q E s := by
  obtain ⟨od, J, hl⟩ := I.look
  exact PySem.W.method_fn X J (PySem.W.plainGet_of hg).1 (PySem.W.plainGet_of hg).2 hf (beq_iff_eq.mp ht) (by show (PySem.W.lookIn name od).map (·.isSome) = some false; rw [hl, hv]; rfl) h

theorem set_map {ns : List Str} {Q : Unit → Shared → Prop} (X : K.In s.heap) (I : ObjM s.heap x dx C mA)
    (hs : PySem.W.findIn K (.ref C) "__setattr__" = some (some (.builtin "object.__setattr__"))) (hp : PySem.W.plainOver K C = true) (ht : PySem.W.takerIn K C name = some none) (hh : PySem.W.hasDictIn K C = true)
    (hw : PySem.Within mA ns) (hsz : ns.length ≤ sizeLine)
    (h : ∀ h', ObjM h' x dx C (fun y => if y = name then some v else mA y) → Heap.SameBut dx s.heap h' → Q () { s with heap := h', toks := s.toks + 2 }) :
    wpAny (model prog w) A (setAttr (.ref x) name v) Q E s := by
  obtain ⟨od, J, hl⟩ := I.look
  refine PySem.W.set_plain X J hs (PySem.W.osa_open (s := { s with toks := s.toks + 1 }) (r := none) X J hp ht fun b => ?_)
  obtain ⟨cd, hc, hd'⟩ := PySem.W.any_some hh
  have hx : s.heap.get? x = some ⟨.ref C, some dx, .plain, #[]⟩ := I.obj
  refine wpAny_bind (wpAny_pure (wpAny_bind (wpAny_bind (wpAny_loadPart hx (wpAny_bind (PySem.W.Looks.here (s := { s with toks := s.toks + 1 }) (PySem.W.looks_clsIn X hc) ?_))))))
  rw [hd']
  refine wpAny_pure (a := some dx) (wpAny_bind (wpAny_pure (wpAny_bind ?_)))
  refine wpAny_nsSet1 (s := { s with toks := s.toks + 1 }) I.ns fun h' hn2 hs2 => ?_
  obtain ⟨oD, esD, epD, hoD, hdD, hcD⟩ := hn2.count (PySem.Within.cons name v hw)
  refine wpAny_bind (wpAny_lookBehind hoD (by rw [hdD]; exact pastItsLine_dict (Nat.le_trans hcD (by rw [List.length_cons]; omega))) ?_)
  exact wpAny_pure (h _ ⟨(hs2.2 _ (Ne.symm I.ne)).trans I.obj, hn2, I.ne⟩ hs2)

/-- C(..): the dict at the heap's end, the instance behind it; then its __init__ -/
theorem make_map {R : Result → Shared → Prop} {vs : List Value} {kw : List (Str × Value)} (X : K.In s.heap) (hm : PySem.W.makesIn K C = true)
    (hi : PySem.W.findIn K (.ref C) "__init__" = some (some (.ref f))) (hf : PySem.W.typeIn K (.ref f) = some (.type "function"))
    (h : codeAny (model prog w) (A.under (.builtin "type.__call__" ⟨.ref C :: vs, kw⟩)) (.call (.ref f) ⟨.ref (s.heap.objs.size + 1) :: vs, kw⟩) (PySem.W.InitBack (s.heap.objs.size + 1) R)
      { s with heap := (s.heap.push PySem.W.emptyDict).push (PySem.W.instObj C s.heap.objs.size) }) :
    codeAny (model prog w) A (.call (.ref C) ⟨vs, kw⟩) R s := by
  obtain ⟨hh, g, d, t, os⟩ := s
  exact PySem.W.make_core (PySem.W.makes_of X hm) (PySem.W.looks_findIn X hi) (fun self => PySem.W.bind_fn X self hf) (.inl rfl) h
end

/-! ### the attributes as a list of pairs -/
def putF (f : Str) (v : V) : List (Str × V) → List (Str × V)
  | [] => [(f, v)]
  | (g, x) :: r => if g = f then (g, v) :: r else (g, x) :: putF f v r
theorem lookup_putF (f g : Str) (v : V) : ∀ fs : List (Str × V), (putF f v fs).lookup g = if g = f then some v else fs.lookup g
  | [] => by
    show List.lookup g [(f, v)] = _
    by_cases h : g = f
    · have hb : (g == f) = true := beq_iff_eq.mpr h
      simp only [List.lookup, hb, if_pos h]
    · have hb : (g == f) = false := beq_eq_false_iff_ne.mpr h
      simp only [List.lookup, hb, if_neg h]
  | (k, x) :: r => by
    have ih := lookup_putF f g v r
    rw [show putF f v ((k, x) :: r) = (if k = f then (k, v) :: r else (k, x) :: putF f v r) from rfl]
    by_cases hk : k = f
    · rw [if_pos hk]
      by_cases h : g = k
      · have hb : (g == k) = true := beq_iff_eq.mpr h
        simp only [List.lookup, hb, if_pos (h.trans hk)]
      · have hb : (g == k) = false := beq_eq_false_iff_ne.mpr h
        simp only [List.lookup, hb, if_neg (fun e : g = f => h (e.trans hk.symm))]
    · rw [if_neg hk]
      by_cases h : g = k
      · have hb : (g == k) = true := beq_iff_eq.mpr h
        simp only [List.lookup, hb, if_neg (fun e : g = f => hk (h.symm.trans e))]
      · have hb : (g == k) = false := beq_eq_false_iff_ne.mpr h
        simp only [List.lookup, hb]
        exact ih
theorem keys_putF (f : Str) (v : V) : ∀ fs : List (Str × V), f ∈ (putF f v fs).map (·.1) ∧ ∀ g, g ∈ fs.map (·.1) → g ∈ (putF f v fs).map (·.1)
  | [] => ⟨by simp [putF], fun g h => by simp at h⟩
  | (k, x) :: r => by
    obtain ⟨i1, i2⟩ := keys_putF f v r
    rw [show putF f v ((k, x) :: r) = (if k = f then (k, v) :: r else (k, x) :: putF f v r) from rfl]
    by_cases hk : k = f
    · rw [if_pos hk]
      subst hk
      exact ⟨by simp, fun g h => by simpa using h⟩
    · rw [if_neg hk]
      refine ⟨?_, fun g h => ?_⟩
      · rw [List.map_cons]
        exact List.mem_cons_of_mem _ i1
      · rw [List.map_cons] at h ⊢
        rcases List.mem_cons.mp h with e | e
        · exact List.mem_cons.mpr (.inl e)
        · exact List.mem_cons_of_mem _ (i2 g e)
theorem length_putF (f : Str) (v : V) : ∀ fs : List (Str × V), (putF f v fs).length ≤ fs.length + 1
  | [] => by simp [putF]
  | (k, x) :: r => by
    have ih := length_putF f v r
    rw [show putF f v ((k, x) :: r) = (if k = f then (k, v) :: r else (k, x) :: putF f v r) from rfl]
    by_cases hk : k = f
    · rw [if_pos hk, List.length_cons, List.length_cons]; omega
    · rw [if_neg hk, List.length_cons, List.length_cons]; omega

theorem RelO.some_of {v : V} {o : Option Value} (r : RelO (some v) o) : ∃ u, o = some u ∧ RelV v u := by
  cases o with
  | none => exact (show False from r).elim
  | some u => exact ⟨u, rfl, r⟩
theorem RelO.none_of {o : Option Value} (r : RelO none o) : o = none := by
  cases o with
  | none => rfl
  | some u => exact (show False from r).elim
theorem handed_of {v : V} {u : Value} (r : RelV v u) : PySem.W.handedIn u = true := by
  cases v with
  | non => cases (show u = Value.none from r); rfl
  | bl b => cases (show u = Value.bool b from r); rfl
  | int i => obtain ⟨t, e⟩ := (show ∃ t, u = Value.int i t from r); cases e; rfl
  | str x => obtain ⟨t, e⟩ := (show ∃ t, u = Value.str x t from r); cases e; rfl
  | byt b => obtain ⟨t, e⟩ := (show ∃ t, u = Value.bytes b t from r); cases e; rfl
  | flt b => obtain ⟨t, e⟩ := (show ∃ t, u = Value.float b t from r); cases e; rfl
  | ref a => cases (show u = Value.ref a from r); rfl
  | ty n => cases (show u = Value.type n from r); rfl

section
variable {P : Program} {w : World} {H H' : Hp} {h h' : Heap} {a C dx : Addr} {fs fs' : List (Str × V)}
theorem ins_get (hok : HOk P w H h) (e : H a = some (.ins C dx fs)) : ∃ mA, ObjM h a dx C mA ∧ (∀ f, RelO (fs.lookup f) (mA f)) ∧ PySem.Within mA (fs.map (·.1)) ∧ fs.length ≤ 1000 ∧ H dx = some (.own a) := by
  obtain ⟨d, z, ne, ob, mA, n, r, q⟩ := (show ObjOk P w H h a (.ins C dx fs) from hok a _ e)
  exact ⟨mA, ⟨ob, n, ne⟩, r, q, z, d⟩
end

/-! ### what of the text a class must have -/
structure Cls (K : PySem.W.Frag) (C : Addr) : Prop where
  pg : PySem.W.plainGet K C Str.empty = true
  hd : PySem.W.hasDictIn K C = true
  po : PySem.W.plainOver K C = true
  sa : PySem.W.findIn K (.ref C) "__setattr__" = some (some (.builtin "object.__setattr__"))
theorem Cls.get {K : PySem.W.Frag} {C : Addr} (c : Cls K C) (f : Str) : PySem.W.plainGet K C f = true := c.pg
/-- no class of it has the name -/
def NoAttr (K : PySem.W.Frag) (C : Addr) (f : Str) : Prop := PySem.W.findIn K (.ref C) f = some none
theorem NoAttr.taker {K : PySem.W.Frag} {C : Addr} {f : Str} (n : NoAttr K C f) : PySem.W.takerIn K C f = some none := by
  unfold PySem.W.takerIn
  rw [show PySem.W.findIn K (.ref C) f = some none from n]
  rfl
/-- a constant of the class -/
structure Con (K : PySem.W.Frag) (C : Addr) (f : Str) (v : V) (u : Value) : Prop where
  at_ : PySem.W.findIn K (.ref C) f = some (some u)
  rel : RelV v u
  get : PySem.W.specialIn K u "__get__" = some none
  cp : PySem.W.copiedNames.contains f = false
/-- a method: a plain def of the class or of one above it -/
structure Meth (K : PySem.W.Frag) (C : Addr) (m : Str) (f : Addr) : Prop where
  at_ : PySem.W.findIn K (.ref C) m = some (some (.ref f))
  fn : PySem.W.isFn K (.ref f) = true
  kp : PySem.W.keepIn K (.ref f) = true

section
variable {X : Cx} {pins : List (Addr × Obj)} {σ : St} {H : Hp} {s : Shared} {a C dx : Addr} {fs : List (Str × V)} {f : Str} {v : V} {A : Around} {E : Value → Shared → Prop}

theorem getattr_ok {b : Bool} {Q : Value → Shared → Prop} (I : Inv X pins σ H s) (e : H a = some (.ins C dx fs)) (c : Cls X.K C) (n : NoAttr X.K C f) (l : fs.lookup f = some v)
    (h : ∀ u s', Inv X pins σ H s' → RelV v u → Q u s') : wpAny (model X.prog X.w) A (getAttr (.ref a) f b) Q E s := by
  obtain ⟨mA, O, r, _, _, _⟩ := ins_get I.hok e
  obtain ⟨u, hu, ru⟩ := RelO.some_of (v := v) (o := mA f) (by rw [← l]; exact r f)
  exact get_map I.kIn O (c.get f) c.hd n hu (handed_of ru) (h u _ (I.tok _) ru)

theorem getmeth_ok {m : Str} {g : Addr} {pl : Sem Bool} {Q : Value × List Value → Shared → Prop} (I : Inv X pins σ H s) (e : H a = some (.ins C dx fs)) (c : Cls X.K C) (k : Meth X.K C m g) (l : fs.lookup m = none)
    (h : Q (.ref g, [.ref a]) s) : wpAny (model X.prog X.w) A (getMethod (.ref a) m pl) Q E s := by
  obtain ⟨mA, O, r, _, _, _⟩ := ins_get I.hok e
  have hn : mA m = none := RelO.none_of (by rw [← l]; exact r m)
  exact get_meth I.kIn O (c.get m) k.at_ k.fn hn h

theorem setattr_ok {y : V} {u : Value} {Q : Unit → Shared → Prop} (I : Inv X pins σ H s) (e : H a = some (.ins C dx fs)) (c : Cls X.K C) (n : NoAttr X.K C f) (hl : fs.length < 1000) (ry : RelV y u)
    (h : ∀ s', Inv X pins σ (upd H a (.ins C dx (putF f y fs))) s' → Q () s') : wpAny (model X.prog X.w) A (setAttr (.ref a) f u) Q E s := by
  obtain ⟨mA, O, r, wi, _, ho⟩ := ins_get I.hok e
  have hz : (fs.map (·.1)).length ≤ sizeLine := by rw [List.length_map, sizeLine_eq]; omega
  refine set_map I.kIn O c.sa c.po n.taker c.hd wi hz fun h' O' sb => h _ ?_
  have hd : ∃ o, h'.get? dx = some o := let ⟨o, _, _, e', _⟩ := O'.ns; ⟨o, e'⟩
  refine I.write (x := a) (e := dx) (by rw [e]; exact True.intro) (.inr ho) (fun b q hb z => (sb.2 b hb).trans z) hd ?_
  refine ⟨by rw [upd_ne O.ne]; exact ho, ?_, O.ne, O'.obj, _, O'.ns, fun g => ?_, fun g hg => ?_⟩
  · have := length_putF f y fs; omega
  · show RelO ((putF f y fs).lookup g) (if g = f then some u else mA g)
    rw [lookup_putF]
    by_cases q : g = f
    · rw [if_pos q, if_pos q]; exact ry
    · rw [if_neg q, if_neg q]; exact r g
  · by_cases q : g = f
    · rw [q]; exact (keys_putF f y fs).1
    · refine (keys_putF f y fs).2 g (wi g fun z => hg ?_)
      show (if g = f then some u else mA g) = none
      rw [if_neg q]; exact z

/-- a new instance, tracked, without attributes -/
theorem Inv.made (I : Inv X pins σ H s) : Inv X pins σ (upd (upd H s.heap.objs.size (.own (s.heap.objs.size + 1))) (s.heap.objs.size + 1) (.ins C s.heap.objs.size []))
    { s with heap := (s.heap.push PySem.W.emptyDict).push (PySem.W.instObj C s.heap.objs.size) } := by
  have e1 : (s.heap.push PySem.W.emptyDict).get? s.heap.objs.size = some PySem.W.emptyDict := Heap.get?_push_size s.heap rfl
  have e2 : ((s.heap.push PySem.W.emptyDict).push (PySem.W.instObj C s.heap.objs.size)).get? (s.heap.objs.size + 1) = some (PySem.W.instObj C s.heap.objs.size) := by
    have := Heap.get?_push_size (s.heap.push PySem.W.emptyDict) (o := PySem.W.instObj C s.heap.objs.size) rfl
    rwa [Heap.size_push] at this
  have e3 : (s.heap.push PySem.W.emptyDict).Ns s.heap.objs.size (fun _ => none) := ⟨PySem.W.emptyDict, #[], _, e1, rfl, (fun e he => absurd he (by simp)), fun _ => rfl⟩
  have I1 := I.laid (a := s.heap.objs.size) (o := .own (s.heap.objs.size + 1)) (h' := s.heap.push PySem.W.emptyDict) (t' := s.toks) (fun b u q => Heap.get?_push_of_some _ q) (Nat.le_refl _) ⟨_, e1⟩
  refine I1.laid (a := s.heap.objs.size + 1) (o := .ins C s.heap.objs.size []) (t' := s.toks) (fun b u q => Heap.get?_push_of_some _ q) (Nat.le_of_eq (Heap.size_push _ _)) ?_
  have ne : s.heap.objs.size ≠ s.heap.objs.size + 1 := Nat.ne_of_lt (Nat.lt_succ_self _)
  refine ⟨by rw [upd_ne ne, upd_same], Nat.zero_le _, ne, e2, fun _ => none, (Heap.Ns1.of_empty e3).at fun o q => Heap.get?_push_of_some _ q, fun _ => True.intro, fun y hy => absurd rfl hy⟩

/-- e.f where nothing but the object is asked: through attributeBase (super) and the last hold -/
theorem attr_of {prog : Program} {w : World} {env : Env} {e : Expr} {f : Str} {pos : Pos} {s : Shared} {Q : Value → Shared → Prop} (hb : attributeBase e f env (eval e env) = eval e env)
    (h : wpAny (model prog w) A (eval e env) (fun o s₁ => wpAny (model prog w) A (getAttr o f true) Q E s₁) E s) : wpAny (model prog w) A (eval (.Attribute e f pos) env) Q E s :=
  Attribute_any_ h (by rw [arm_eval_Attribute, hb])
end

/-! ### readings and rules -/
/-- e.f, an attribute of the instance -/
def tFld (K : PySem.W.Frag) (ta : TE) (f : Str) : TE := fun σ H Q => ta σ H fun x H1 => ∃ a C dx fs v, x = .ref a ∧ H1 a = some (.ins C dx fs) ∧ Cls K C ∧ NoAttr K C f ∧ fs.lookup f = some v ∧ Q v H1
/-- e.f, a constant of the class -/
def tCon (K : PySem.W.Frag) (ta : TE) (f : Str) : TE := fun σ H Q => ta σ H fun x H1 => ∃ a C dx fs v u, x = .ref a ∧ H1 a = some (.ins C dx fs) ∧ Cls K C ∧ Con K C f v u ∧ fs.lookup f = none ∧ Q v H1
/-- e.f = value -/
def sFld (K : PySem.W.Frag) (ta tv : TE) (f : Str) : TS := fun D σ H => tv σ H fun y H1 => ta σ H1 fun x H2 => ∃ a C dx fs, x = .ref a ∧ H2 a = some (.ins C dx fs) ∧ Cls K C ∧ NoAttr K C f ∧ fs.length < 1000 ∧
  D.nx σ (upd H2 a (.ins C dx (putF f y fs)))
/-- an augmented operator on two values -/
def InOp (X : Cx) (op : Operator) (rd : V → V → Hp → VK → Prop) : Prop :=
  ∀ (pins : List (Addr × Obj)) (s : Shared) (σ : St) (H : Hp) (x y : V) (u v : Value) (Q : VK), Inv X pins σ H s → RelV x u → RelV y v → rd x y H Q → wpAny (model X.prog X.w) X.A (inplaceOp op u v) (EP X pins σ Q) X.xe s
/-- e.f op= value -/
def sFldAug (K : PySem.W.Frag) (ta tv : TE) (rd : V → V → Hp → VK → Prop) (f : Str) : TS := fun D σ H => ta σ H fun x H1 => ∃ a C dx fs v, x = .ref a ∧ H1 a = some (.ins C dx fs) ∧ Cls K C ∧ NoAttr K C f ∧ fs.lookup f = some v ∧
  tv σ H1 fun y H2 => rd v y H2 fun z H3 => ∃ dx' fs', H3 a = some (.ins C dx' fs') ∧ fs'.length < 1000 ∧ D.nx σ (upd H3 a (.ins C dx' (putF f z fs')))

section
variable {X : Cx} {o e value : Expr} {f : Str} {pos pos' tpos : Pos} {ta tv : TE}
def rAdd : V → V → Hp → VK → Prop := fun x y H Q => ∃ i j, x = .int i ∧ y = .int j ∧ Q (.int (i + j)) H
def rSub : V → V → Hp → VK → Prop := fun x y H Q => ∃ i j, x = .int i ∧ y = .int j ∧ Q (.int (i - j)) H
end

/-! ### isinstance -/
section
variable {X : Cx} {pins : List (Addr × Obj)} {σ : St} {H : Hp} {s : Shared} {A : Around} {E : Value → Shared → Prop} {Q : Value → Shared → Prop} {c : Value} {b : Bool}
/-- the type of a value, as the fragment's deciders take it; for an instance its class -/
inductive TyOf (K : PySem.W.Frag) (H : Hp) : V → Value → Prop where
  | non : TyOf K H .non (.type "NoneType")
  | bl (x : Bool) : TyOf K H (.bl x) (.type "bool")
  | int (i : Int) : TyOf K H (.int i) (.type "int")
  | str (x : Str) : TyOf K H (.str x) (.type "str")
  | flt (x : UInt64) : TyOf K H (.flt x) (.type "float")
  | lst {a : Addr} {xs : List V} (e : H a = some (.lst xs)) : TyOf K H (.ref a) (.type "list")
  | frz {a : Addr} {o : Obj} {xs : List V} (e : H a = some (.frz o (.lst xs))) : TyOf K H (.ref a) (.type "list")
  | tup {a : Addr} {xs : List V} (e : H a = some (.tup xs)) : TyOf K H (.ref a) (.type "tuple")
  | dK {a : Addr} {kvs : List (Key × V)} (e : H a = some (.dK kvs)) : TyOf K H (.ref a) (.type "dict")
  | dT {a : Addr} {kvs : List (List Key × V)} (e : H a = some (.dT kvs)) : TyOf K H (.ref a) (.type "dict")
  | ins {a C dx : Addr} {fs : List (Str × V)} (e : H a = some (.ins C dx fs)) (cl : Cls K C) (ha : PySem.W.findIn K (.ref C) "__class__" = some (some (.builtin "object.__class__")))
      (hn : PySem.W.specialIn K (.builtin "object.__class__") "__get__" = some (some (.builtin "getset_descriptor.__get__"))) (htk : PySem.W.takesIn K (.builtin "object.__class__") = some true)
      (hm : PySem.W.mroIn K C (.type "object") = some true) : TyOf K H (.ref a) (.ref C)
/-- isinstance(x, c) for one class c, a built-in or an own one: kitOne's answer -/
theorem isinst_ok {x : V} {u t : Value} (I : Inv X pins σ H s) (rx : RelV x u) (ty : TyOf X.K H x t) (e : PySem.W.kitOne X.K t c = some b) (h : ∀ tk, Q (.bool b) { s with toks := tk }) :
    wpAny (model X.prog X.w) A (call (.builtin "isinstance") [u, c]) Q E s := by
  cases ty with
  | non => cases (show u = Value.none from rx); exact PySem.W.kia_one PySem.W.kitx_none I.kIn True.intro e (fun z => nomatch z) h
  | bl y => cases (show u = Value.bool y from rx); exact PySem.W.kia_one PySem.W.kitx_bool I.kIn True.intro e (fun z => nomatch z) h
  | int i => obtain ⟨t, q⟩ := (show ∃ t, u = Value.int i t from rx); cases q; exact PySem.W.kia_one PySem.W.kitx_int I.kIn True.intro e (fun z => nomatch z) h
  | str y => obtain ⟨t, q⟩ := (show ∃ t, u = Value.str y t from rx); cases q; exact PySem.W.kia_one PySem.W.kitx_str I.kIn True.intro e (fun z => nomatch z) h
  | flt y => obtain ⟨t, q⟩ := (show ∃ t, u = Value.float y t from rx); cases q; exact PySem.W.kia_one PySem.W.kitx_float I.kIn True.intro e (fun z => nomatch z) h
  | @lst a xs ea =>
    cases (show u = Value.ref a from rx)
    obtain ⟨_, _, n, _, h1⟩ := (show ObjOk X.prog X.w H s.heap a (.lst xs) from I.hok a _ ea)
    exact PySem.W.kia_one PySem.W.kitx_list I.kIn ⟨_, h1, rfl⟩ e (fun z => nomatch z) h
  | @frz a ob xs ea =>
    cases (show u = Value.ref a from rx)
    obtain ⟨_, _, _, n, _, h1⟩ := (show ObjOk X.prog X.w H s.heap a (.frz ob (.lst xs)) from I.hok a _ ea)
    exact PySem.W.kia_one PySem.W.kitx_list I.kIn ⟨_, h1, rfl⟩ e (fun z => nomatch z) h
  | @tup a xs ea =>
    cases (show u = Value.ref a from rx)
    obtain ⟨_, _, _, p⟩ := (show ObjOk X.prog X.w H s.heap a (.tup xs) from I.hok a _ ea)
    obtain ⟨o, h1, h2, _⟩ := p
    exact PySem.W.kia_one PySem.W.kitx_tuple I.kIn ⟨o, h1, h2⟩ e (fun z => nomatch z) h
  | @dK a kvs ea =>
    cases (show u = Value.ref a from rx)
    obtain ⟨_, _, vs, _, p⟩ := (show ObjOk X.prog X.w H s.heap a (.dK kvs) from I.hok a _ ea)
    obtain ⟨o, es, ep, h1, h2, _⟩ := p
    exact PySem.W.kia_one PySem.W.kitx_dict I.kIn ⟨o, h1, h2.1⟩ e (fun z => nomatch z) h
  | @dT a kvs ea =>
    cases (show u = Value.ref a from rx)
    obtain ⟨_, _, xs, _, o, es, ep, h1, h2, _⟩ := (show ObjOk X.prog X.w H s.heap a (.dT kvs) from I.hok a _ ea)
    exact PySem.W.kia_one PySem.W.kitx_dict I.kIn ⟨o, h1, h2.1⟩ e (fun z => nomatch z) h
  | @ins a C dx fs ea cl ha hn htk hm =>
    cases (show u = Value.ref a from rx)
    obtain ⟨mA, O, _⟩ := ins_get I.hok ea
    obtain ⟨od, J, _⟩ := O.look
    exact PySem.W.kia_one (PySem.W.kitx_own (cl.get _) cl.hd ha hn htk hm) I.kIn J e (fun z => nomatch z) h
end
end L2

namespace L2
open PySem PySem.Spec PyProof.Rows

/-! ### room -/
structure Room (k : Nat) (A : Around) : Prop where
  hd : A.handled = none
  dp : A.depth + 3 * k + 5 < recursionLimit
  un : A.units + 16 * k + 200 < cLine
theorem Room.mono {j k : Nat} {A : Around} (r : Room k A) (h : j ≤ k) : Room j A := ⟨r.hd, by have := r.dp; omega, by have := r.un; omega⟩
theorem Room.deeper {k : Nat} {A : Around} (r : Room (k + 1) A) (env : Env) : Room k (A.deeper env) :=
  ⟨r.hd, by have := r.dp; show A.depth + 1 + 3 * k + 5 < _; omega, by have := r.un; show A.units + 3 + 16 * k + 200 < _; omega⟩
theorem make_depth {A : Around} {C : Addr} {us : List Value} {kw : List (Str × Value)} : (A.under (.builtin "type.__call__" ⟨.ref C :: us, kw⟩)).depth = A.depth + 1 := by
  first | rfl | simp [Around.under, Code.weight, Code.isCreation, Code.isGuard, Code.isCaller, Code.frames, Code.isFrame, guardIds]
theorem make_units {A : Around} {C : Addr} {us : List Value} {kw : List (Str × Value)} : (A.under (.builtin "type.__call__" ⟨.ref C :: us, kw⟩)).units = A.units + 1 := by
  first | rfl | simp [Around.under, Code.cUnits, Code.frames, Code.isFrame]
theorem Room.make {k : Nat} {A : Around} (r : Room (k + 1) A) (C : Addr) (us : List Value) (kw : List (Str × Value)) : Room k (A.under (.builtin "type.__call__" ⟨.ref C :: us, kw⟩)) :=
  ⟨r.hd, by have := r.dp; rw [make_depth]; omega, by have := r.un; rw [make_units]; omega⟩
theorem Room.depth {k : Nat} {A : Around} (r : Room k A) : A.depth < recursionLimit := by have := r.dp; omega
/-! ### argument lists and displays -/
def tNil : TA := fun _ H Q => Q [] H
def tCons (ta : TE) (tr : TA) : TA := fun σ H Q => ta σ H fun x H1 => tr σ H1 fun xs H2 => Q (x :: xs) H2
section
variable {X : Cx} {e : Expr} {es : List Expr} {te : TE} {t : TA} {pos : Pos}
theorem pa_nil : PA X [] tNil := fun _ _ _ _ H Q I h => Calls.spliced_nil ⟨[], H, I, .nil, h⟩
theorem pa_cons (ha : PE X e te) (hr : PA X es t) (hs : starEach (e :: es) X.env = (false, eval e X.env) :: starEach es X.env := by rfl) : PA X (e :: es) (tCons te t) := by
  intro pos pins s σ H Q I h
  rw [hs]
  show wpAny _ _ (spliced ((false, eval e X.env) :: backTo pos (starEach es X.env))) _ _ s
  refine Calls.spliced_cons (thn (ha pins s σ H _ I h) fun u s1 ⟨x, H1, I1, r1, q1⟩ => ?_)
  exact thn (hr pos pins s1 σ H1 _ I1 q1) fun us s2 ⟨xs, H2, I2, r2, q2⟩ => ⟨x :: xs, H2, I2, .cons r1 r2, q2⟩

/-- a tuple, a list of written items -/
def tTup (t : TA) : TE := fun σ H Q => t σ H fun xs H1 => xs.length ≤ sizeLine ∧ ∀ p, H1 p = none → Q (.ref p) (upd H1 p (.tup xs))
def tLst (t : TA) : TE := fun σ H Q => t σ H fun xs H1 => xs.length ≤ sizeLine ∧ ∀ p, H1 p = none → Q (.ref p) (upd H1 p (.lst xs))
theorem pe_lst (h : PA X es t) : PE X (.List es pos) (tLst t) := by
  intro pins s σ H Q I hq
  refine wpAny_List_spliced (thn (h pos pins s σ H _ I hq) fun us s1 ⟨xs, H1, I1, r, z, q⟩ => ⟨by rw [← r.length]; exact z, ?_⟩)
  have hf : H1 s1.heap.objs.size = none := I1.hok.fresh (Nat.le_refl _)
  refine ⟨.ref s1.heap.objs.size, upd H1 s1.heap.objs.size (.lst xs), I1.laid (t' := s1.toks) (fun b u e => Heap.get?_push_of_some _ e) (Nat.le_refl _) ?_, rfl, q _ hf⟩
  exact ⟨z, us, 0, r, Heap.get?_push_size _ rfl⟩
end

/-! ### what a def promises -/
/-- a def's promise: the bound arguments in the parameters' order, the heap, the wanted end, the wanted exception -/
abbrev Sp := List V → Hp → VK → XK → Prop
/-- how an exception lies behind a call (file 08 gives it): the callers' frames, abstract heap and state ahead of the call, the wish, the exception, the state -/
abbrev CXT := List Env → Hp → Shared → XK → Value → Shared → Prop

/-- the state at a call -/
structure Env0 (P : Program) (w : World) (K : PySem.W.Frag) (mg : Str → Option Value) (base : Heap) (A : Around) (outer : List Env) (s : Shared) (H : Hp) : Prop where
  frames : A.frames = some outer
  mod : Mod K mg base
  bs : ∀ b o, base.get? b = some o → s.heap.get? b = some o ∧ H b = none
  bsz : base.objs.size ≤ s.heap.objs.size
  funs : s.heap.FunFrames base outer
  frf : ∀ b ∈ frs outer, H b = none
  hok : HOk P w H s.heap
  bare : AllBare s.gens
/-- a call's end -/
def CE (outer : List Env) (P : Program) (w : World) (H : Hp) (s : Shared) (Q : VK) (u : Value) (s' : Shared) : Prop :=
  ∃ v H', s'.os = s.os ∧ AllBare s'.gens ∧ Un (frs outer) [] H H' s.heap s'.heap ∧ HOk P w H' s'.heap ∧ RelV v u ∧ Q v H'
def CR (CX : CXT) (outer : List Env) (P : Program) (w : World) (H : Hp) (s : Shared) (Q : VK) (E : XK) (r : Result) (s' : Shared) : Prop :=
  match r with
  | .ok (.ret u) => CE outer P w H s Q u s'
  | .ok _ => False
  | .error e => CX outer H s E e s'
structure FnOk (P : Program) (w : World) (K : PySem.W.Frag) (mg : Str → Option Value) (base : Heap) (CX : CXT) (k : Nat) (f : Addr) (fd : FuncData) (ps : List Str) (sp : Sp) : Prop where
  len : ∀ vs H Q E, sp vs H Q E → vs.length = ps.length
  run : ∀ (A : Around) (outer : List Env) (s : Shared) (H : Hp) (args : Args) (us : List Value) (vs : List V) (Q : VK) (E : XK), Room k A → Env0 P w K mg base A outer s H → BindsTo s fd args (ps.zip us) → Vals vs us → sp vs H Q E →
    codeAny (model P w) A (.call (.ref f) args) (CR CX outer P w H s Q E) s
theorem FnOk.mono {P : Program} {w : World} {K : PySem.W.Frag} {mg : Str → Option Value} {base : Heap} {CX : CXT} {j k : Nat} {f : Addr} {fd : FuncData} {ps : List Str} {sp : Sp} (F : FnOk P w K mg base CX j f fd ps sp) (h : j ≤ k) :
    FnOk P w K mg base CX k f fd ps sp := ⟨F.len, fun A outer s H args us vs Q E hr => F.run A outer s H args us vs Q E (hr.mono h)⟩
theorem Env0.make {P : Program} {w : World} {K : PySem.W.Frag} {mg : Str → Option Value} {base : Heap} {A : Around} {outer : List Env} {s : Shared} {H : Hp} (e : Env0 P w K mg base A outer s H) (C : Addr) (us : List Value) (kw : List (Str × Value)) :
    Env0 P w K mg base (A.under (.builtin "type.__call__" ⟨.ref C :: us, kw⟩)) outer s H := ⟨by first | exact e.frames | (simpa [Around.under, Code.envs, Code.isFrame, pushEnvs] using e.frames), e.mod, e.bs, e.bsz, e.funs, e.frf, e.hok, e.bare⟩
section
variable {X : Cx} {pins : List (Addr × Obj)} {σ : St} {H : Hp} {s s' : Shared}
/-- from a body: what a callee wants -/
theorem Inv.env0 (I : Inv X pins σ H s) : Env0 X.prog X.w X.K X.mg X.base X.A X.stack s H :=
  ⟨I.ok.frames, I.ok.mod, I.bs, Nat.le_trans I.ok.bsz I.sz, I.stack, I.stkFree, I.hok, I.bare⟩
/-- behind a call -/
theorem Inv.after {Q : VK} {u : Value} (I : Inv X pins σ H s) (h : CE X.stack X.prog X.w H s Q u s') : EP X pins σ Q u s' := by
  obtain ⟨v, H', os, bare, un, hok, r, q⟩ := h
  obtain ⟨hh, g, d, t, os'⟩ := s'
  obtain rfl : os' = s.os := os
  exact ⟨v, H', I.call (h' := hh) (g' := g) (d' := d) (t' := t) (ch := []) un hok bare (fun b z => absurd z (by simp)), r, q⟩
end

/-! ### calls -/
/-- f(..): the written arguments, then the defaults dvs; E: what is wanted of an exception -/
def tCall (sp : Sp) (dvs : List V) (E : XK) (t : TA) : TE := fun σ H Q => t σ H fun vs H1 => sp (vs ++ dvs) H1 Q E
/-- o.m(..) of an instance of the class at C -/
def tMeth (C : Addr) (m : Str) (sp : Sp) (dvs : List V) (E : XK) (ta : TE) (t : TA) : TE := fun σ H Q => ta σ H fun x H1 => ∃ a dx fs, x = .ref a ∧ H1 a = some (.ins C dx fs) ∧ fs.lookup m = none ∧
  t σ H1 fun vs H2 => sp (x :: (vs ++ dvs)) H2 Q E
/-- C(..): a new instance and its dict, then __init__ -/
def tMake (C : Addr) (sp : Sp) (dvs : List V) (E : XK) (t : TA) : TE := fun σ H Q => t σ H fun vs H1 => ∀ x dx, H1 x = none → H1 dx = none → dx ≠ x →
  sp (.ref x :: (vs ++ dvs)) (upd (upd H1 dx (.own x)) x (.ins C dx [])) (fun v H2 => v = .non ∧ Q (.ref x) H2) E

/-- how the parameters are bound: us the positional arguments, kw the keywords' values by name, ds the defaults that fill up -/
def Binds (K : PySem.W.Frag) (fd : FuncData) (ps : List Str) (ds : List Value) : Prop :=
  ∀ (s : Shared) (us : List Value), K.In s.heap → (us ++ ds).length = ps.length → BindsTo s fd ⟨us, []⟩ (ps.zip (us ++ ds))
/-- every parameter is given -/
theorem Binds.all {K : PySem.W.Frag} {fd : FuncData} {ps : List Str} (h : ∀ us : List Value, us.length = ps.length → bindArgs fd ⟨us, []⟩ = pure (ps.zip us)) : Binds K fd ps [] := fun s us _ hl => by
  rw [List.append_nil] at hl ⊢
  exact .of_eq (h us hl)

/-- an exception of a callee reaches what this body wants of exceptions -/
def Passes (CX : CXT) (X : Cx) (E : XK) : Prop := ∀ (pins : List (Addr × Obj)) (σ : St) (H : Hp) (s : Shared) (e : Value) (s' : Shared), Inv X pins σ H s → CX X.stack H s E e s' → X.xe e s'

section
variable {X : Cx} {CX : CXT} {k : Nat} {f C : Addr} {fd : FuncData} {ps : List Str} {sp : Sp} {dvs : List V} {ds : List Value} {E : XK} {x m : Str} {p pos apos : Pos} {e o : Expr} {es : List Expr} {ta : TE} {t : TA}

/-- the callee runs -/
theorem run_fn {pins : List (Addr × Obj)} {σ : St} {H : Hp} {s : Shared} {Q : VK} {us : List Value} {vs : List V} (F : FnOk X.prog X.w X.K X.mg X.base CX k f fd ps sp) (hr : Room k X.A) (hb : Binds X.K fd ps ds) (hd : Vals dvs ds) (hx : Passes CX X E)
    (I : Inv X pins σ H s) (r : Vals vs us) (h : sp (vs ++ dvs) H Q E) : wpAny (model X.prog X.w) X.A (call (.ref f) us) (EP X pins σ Q) X.xe s := by
  have r2 : Vals (vs ++ dvs) (us ++ ds) := r.append hd
  have hl : (us ++ ds).length = ps.length := by rw [← r2.length]; exact F.len _ _ _ _ h
  refine wpAny_call (codeAny_mono (F.run X.A X.stack s H ⟨us, []⟩ (us ++ ds) (vs ++ dvs) Q E hr I.env0 (hb s us I.kIn hl) r2 h) fun r s' hq => ?_)
  cases r with
  | error e => exact hx pins σ H s e s' I hq
  | ok fl =>
    cases fl with
    | ret u => exact I.after hq
    | next => exact False.elim hq
    | brk => exact False.elim hq
    | cont => exact False.elim hq

theorem pe_call (F : FnOk X.prog X.w X.K X.mg X.base CX k f fd ps sp) (hr : Room k X.A) (hg : Gl X x) (hm : X.mg x = some (.ref f)) (hk : PySem.W.keepIn X.K (.ref f) = true) (hb : Binds X.K fd ps ds) (hd : Vals dvs ds) (hx : Passes CX X E)
    (ha : PA X (e :: es) t) (hdb : (x == ("__debug__" : Str)) = false := by decide) (he : starEach (e :: es) X.env = (false, eval e X.env) :: starEach es X.env := by rfl) (hpl : (backTo pos (starEach es X.env)).any (·.1) = false := by rfl) :
    PE X (.Call (.Name x p) (e :: es) [] pos) (tCall sp dvs E t) := by
  intro pins s σ H Q I h
  refine wpAny_Call_Name_kw (ld_glob I hg hm ?_ hdb)
  refine PySem.W.callWith_K (h₀ := X.base) I.ok.mod.kin hk (thn (ha pos pins s σ H _ I h) fun us s1 ⟨vs, H1, I1, r, q⟩ => ⟨I1.kIn, ?_⟩) he hpl
  exact run_fn F hr hb hd hx I1 r q
/-- what a class must have to be made -/
structure Mk (K : PySem.W.Frag) (C f : Addr) : Prop where
  makes : PySem.W.makesIn K C = true
  init : PySem.W.findIn K (.ref C) "__init__" = some (some (.ref f))
  fn : PySem.W.isFn K (.ref f) = true
  kp : PySem.W.keepIn K (.ref C) = true

theorem run_make {pins : List (Addr × Obj)} {σ : St} {H : Hp} {s : Shared} {Q : VK} {us : List Value} {vs : List V} (M : Mk X.K C f) (F : FnOk X.prog X.w X.K X.mg X.base CX k f fd ps sp) (hr : Room (k + 1) X.A) (hb : Binds X.K fd ps ds) (hd : Vals dvs ds)
    (hx : Passes CX X E) (I : Inv X pins σ H s) (r : Vals vs us)
    (h : ∀ x dx, H x = none → H dx = none → dx ≠ x → sp (.ref x :: (vs ++ dvs)) (upd (upd H dx (.own x)) x (.ins C dx [])) (fun v H2 => v = .non ∧ Q (.ref x) H2) E) :
    wpAny (model X.prog X.w) X.A (call (.ref C) us) (EP X pins σ Q) X.xe s := by
  have hq := h (s.heap.objs.size + 1) s.heap.objs.size (I.hok.fresh (Nat.le_succ _)) (I.hok.fresh (Nat.le_refl _)) (Nat.ne_of_lt (Nat.lt_succ_self _))
  have I2 := Inv.made (C := C) I
  have r2 : Vals (V.ref (s.heap.objs.size + 1) :: (vs ++ dvs)) (Value.ref (s.heap.objs.size + 1) :: (us ++ ds)) := .cons rfl (r.append hd)
  have hl : (Value.ref (s.heap.objs.size + 1) :: us ++ ds).length = ps.length := by
    have e := r2.length
    rw [F.len _ _ _ _ hq] at e
    exact e.symm
  refine wpAny_call (make_map (f := f) I.kIn M.makes M.init (beq_iff_eq.mp M.fn) (codeAny_mono (F.run _ X.stack _ _ ⟨Value.ref (s.heap.objs.size + 1) :: us, []⟩ (Value.ref (s.heap.objs.size + 1) :: (us ++ ds)) _ _ E (hr.make C us [])
    (I2.env0.make C us []) (hb _ (Value.ref (s.heap.objs.size + 1) :: us) I2.kIn hl) r2 hq) fun r s' hq' => ?_))
  cases r with
  | error e => exact hx pins σ _ _ e s' I2 hq'
  | ok fl =>
    cases fl with
    | ret u =>
      obtain ⟨v, H', I3, rv, ev, q3⟩ := I2.after hq'
      subst ev
      exact ⟨rv, ⟨V.ref (s.heap.objs.size + 1), H', I3, rfl, q3⟩⟩
    | next => exact False.elim hq'
    | brk => exact False.elim hq'
    | cont => exact False.elim hq'
theorem pe_make0 (M : Mk X.K C f) (F : FnOk X.prog X.w X.K X.mg X.base CX k f fd ps sp) (hr : Room (k + 1) X.A) (hg : Gl X x) (hm : X.mg x = some (.ref C)) (hb : Binds X.K fd ps ds) (hd : Vals dvs ds) (hx : Passes CX X E)
    (hdb : (x == ("__debug__" : Str)) = false := by decide) : PE X (.Call (.Name x p) [] [] pos) (tMake C sp dvs E tNil) := by
  intro pins s σ H Q I h
  refine wpAny_Call_Name_kw (ld_glob I hg hm ?_ hdb)
  exact PySem.W.callWith_K0 I.kIn M.kp (run_make (us := []) M F hr hb hd hx I .nil h)
end

/-! ### keywords -/
/-- the values of the keywords, from the left -/
def PK (X : Cx) (kws : List Keyword) (t : TA) : Prop :=
  ∀ (pos : Pos) (pins : List (Addr × Obj)) (s : Shared) (σ : St) (H : Hp) (Q : List V → Hp → Prop), Inv X pins σ H s → t σ H Q → wpAny (model X.prog X.w) X.A (evalAll ((backToKw pos (keywordEach kws X.env)).map (·.2))) (AP X pins σ Q) X.xe s
section
variable {X : Cx} {CX : CXT} {k : Nat} {f C : Addr} {fd : FuncData} {ps ks : List Str} {sp : Sp} {E : XK} {x m : Str} {p pos apos kpos : Pos} {e o : Expr} {es : List Expr} {kws : List Keyword} {te ta : TE} {t tk : TA} {nm : Option Str}
/-- how a call with keywords binds: g puts the positional values us and the keywords' values ws (names ks) in the parameters' order, defaults among them -/
structure KBinds (K : PySem.W.Frag) (fd : FuncData) (ps ks : List Str) (g : List Value → List Value → List Value) (gV : List V → List V → List V) : Prop where
  to : ∀ (s : Shared) (us ws : List Value), K.In s.heap → (g us ws).length = ps.length → BindsTo s fd ⟨us, ks.zip ws⟩ (ps.zip (g us ws))
  rel : ∀ {vs : List V} {us : List Value} {zs : List V} {ws : List Value}, Vals vs us → Vals zs ws → Vals (gV vs zs) (g us ws)
def tCallK (sp : Sp) (gV : List V → List V → List V) (E : XK) (t tk : TA) : TE := fun σ H Q => t σ H fun vs H1 => tk σ H1 fun zs H2 => sp (gV vs zs) H2 Q E
variable {g : List Value → List Value → List Value} {gV : List V → List V → List V}
end

/-! ### a def's body keeps its promise -/
/-- names: the parameters first -/
structure FnScope (N P : List Str) (sc : Scope) : Prop where
  kind : sc.kind = .function
  co : sc.isCoroutine = false
  gen : sc.isGenerator = false
  nd : N.Nodup
  pre : N.take P.length = P
  par : ∀ x ∈ P, sc.names.lookup x = some .local ∨ sc.names.lookup x = some .cell
  nofree : ∀ y ∈ sc.names, y.2 ≠ .free

theorem bindL_out {kindOf : Str → Option NameKind} {x : Str} : ∀ {binds : List (Str × Value)} {m : Str → Option Value}, (∀ v, (x, v) ∉ binds) → bindL kindOf binds m x = m x
  | [], _, _ => rfl
  | (n, v) :: r, m, h => by
    unfold bindL
    rw [bindL_out fun w hw => h w (List.mem_cons_of_mem _ hw)]
    split
    · have : x ≠ n := by rintro rfl; exact h v List.mem_cons_self
      simp [this]
    · rfl
theorem bindC_out {kindOf : Str → Option NameKind} {x : Str} : ∀ {binds : List (Str × Value)} {m : Str → Option Value}, (∀ v, (x, v) ∉ binds) → bindC kindOf binds m x = m x
  | [], _, _ => rfl
  | (n, v) :: r, m, h => by
    unfold bindC
    rw [bindC_out fun w hw => h w (List.mem_cons_of_mem _ hw)]
    split
    · rfl
    · have : x ≠ n := by rintro rfl; exact h v List.mem_cons_self
      simp [this]
theorem bindL_get {kindOf : Str → Option NameKind} {x : Str} {v : Value} : ∀ {P : List Str} {vs : List Value} {i : Nat} {m : Str → Option Value}, P.Nodup → P[i]? = some x → vs[i]? = some v → kindOf x = some .local →
    bindL kindOf (P.zip vs) m x = some v
  | [], _, _, _, _, h, _, _ => by simp at h
  | _ :: _, [], _, _, _, _, h, _ => by simp at h
  | p :: P, w :: vs, 0, m, nd, h1, h2, hk => by
    simp at h1 h2; subst h1; subst h2
    show bindL kindOf ((p, w) :: P.zip vs) m p = _
    unfold bindL
    rw [bindL_out fun v hv => (List.nodup_cons.mp nd).1 (List.of_mem_zip hv).1, if_pos hk]
    simp
  | p :: P, w :: vs, i + 1, m, nd, h1, h2, hk => by
    show bindL kindOf ((p, w) :: P.zip vs) m x = _
    unfold bindL
    exact bindL_get (i := i) (List.nodup_cons.mp nd).2 (by simpa using h1) (by simpa using h2) hk
theorem bindC_get {kindOf : Str → Option NameKind} {x : Str} {v : Value} : ∀ {P : List Str} {vs : List Value} {i : Nat} {m : Str → Option Value}, P.Nodup → P[i]? = some x → vs[i]? = some v → kindOf x ≠ some .local →
    bindC kindOf (P.zip vs) m x = some v
  | [], _, _, _, _, h, _, _ => by simp at h
  | _ :: _, [], _, _, _, _, h, _ => by simp at h
  | p :: P, w :: vs, 0, m, nd, h1, h2, hk => by
    simp at h1 h2; subst h1; subst h2
    show bindC kindOf ((p, w) :: P.zip vs) m p = _
    unfold bindC
    rw [bindC_out fun v hv => (List.nodup_cons.mp nd).1 (List.of_mem_zip hv).1, if_neg hk]
    simp
  | p :: P, w :: vs, i + 1, m, nd, h1, h2, hk => by
    show bindC kindOf ((p, w) :: P.zip vs) m x = _
    unfold bindC
    exact bindC_get (i := i) (List.nodup_cons.mp nd).2 (by simpa using h1) (by simpa using h2) hk

/-- the names' values at the entry -/
def start (N : List Str) (vs : List V) : St := vs.map some ++ List.replicate (N.length - vs.length) none

/-- the context of a def's body, at its entry; an exception leaves the frame, then lies as CX says -/
def cxOf (CX : CXT) (P : Program) (w : World) (K : PySem.W.Frag) (mg : Str → Option Value) (base : Heap) (N : List Str) (qual : Str) (scope : Scope) (f : Addr) (cd : Value) (A : Around) (outer : List Env) (s : Shared) (H : Hp) (E : XK) : Cx where
  prog := P
  w := w
  K := K
  mg := mg
  base := base
  A := A.deeper (envOfC qual scope s.heap.objs.size f cd)
  N := N
  s₀ := s
  H₀ := H
  env := envOfC qual scope s.heap.objs.size f cd
  outer := outer
  stack := envOfC qual scope s.heap.objs.size f cd :: outer
  ex := []
  calm := true
  fn := fun _ => true
  pn := []
  xe := fun e s' => wpAny (model P w) (A.deeper (envOfC qual scope s.heap.objs.size f cd)) (leaving (envOfC qual scope s.heap.objs.size f cd) e) (fun _ s'' => CX outer H s E e s'') (fun e' s'' => CX outer H s E e' s'') s'

theorem cell_has {sc : Scope} {n : Nat} {x : Str} (h : sc.names.lookup x = some .cell) : ∃ c, (cellsFrom n sc.names []).lookup x = some c := by
  have q := PySem.W.cellsFrom_some sc.names n [] (.inl h)
  exact Option.isSome_iff_exists.mp q

theorem inv_start {CX : CXT} {P : Program} {w : World} {K : PySem.W.Frag} {mg : Str → Option Value} {base : Heap} {N ps : List Str} {qual : Str} {scope : Scope} {f : Addr} {cd : Value} {A : Around} {outer : List Env} {s s1 : Shared} {H : Hp} {E : XK} {us : List Value} {vs : List V}
    (S : FnScope N ps scope) (hd : A.handled = none) (e0 : Env0 P w K mg base A outer s H) (hl : vs.length = ps.length) (r : Vals vs us)
    (x : InCallC s s.heap.objs.size (bindL (envOfC qual scope s.heap.objs.size f cd).kindOf (ps.zip us) fun _ => none) (cellsFrom (s.heap.objs.size + 1) scope.names []) (bindC (envOfC qual scope s.heap.objs.size f cd).kindOf (ps.zip us) fun _ => none) s1) :
    Inv (cxOf CX P w K mg base N qual scope f cd A outer s H E) [] (start N vs) H s1 := by
  have hpl : ps.length ≤ N.length := by have := congrArg List.length S.pre; rw [List.length_take] at this; omega
  obtain ⟨h1, tk, rfl, hk⟩ := x.done
  have noA : ∀ b : Addr, b ∉ (cxOf CX P w K mg base N qual scope f cd A outer s H E).ex := fun b z => absurd (show b ∈ ([] : List Addr) from z) (by simp)
  refine ⟨⟨e0.mod, S.kind, rfl, rfl, Nat.le_refl _, fun y z c h1 h2 => ?_, fun y hy => ?_, fun y c _ h => ?_, fun _ => hd, Around.frames_deeper e0.frames, .inr ⟨rfl, rfl⟩, fun b z => absurd z (noA b), e0.bs, e0.bsz, fun b _ _ => noA b, fun b z => absurd z (noA b), e0.funs, e0.frf⟩,
    rfl, e0.bare, Un.kept hk, ⟨_, x.toInCall.ns, fun i y v h1 h2 h3 => ?_⟩, fun y c h => ⟨_, x.cell y c h⟩, e0.hok.fresh (Nat.le_refl _), fun y c h => ?_, fun p hp => absurd (show p ∈ ([] : List (Addr × Obj)) from hp) (by simp), e0.hok.kept hk, ?_⟩
  · exact name_of_addr x.apart (PySem.mem_of_lookup h1) (PySem.mem_of_lookup h2)
  · have hy : scope.names.lookup y = some .cell ∨ scope.names.lookup y = some .free := hy
    rcases hy with hy | hy
    · exact cell_has hy
    · exact absurd rfl (S.nofree _ (PySem.mem_of_lookup hy))
  · exact Nat.le_of_lt (x.above y c (PySem.mem_of_lookup h))
  · have hi : i < vs.length := by
      unfold start at h2
      by_cases hi : i < vs.length
      · exact hi
      · rw [List.getElem?_append_right (by simpa using hi)] at h2
        rw [List.getElem?_replicate] at h2
        split at h2 <;> cases h2
    have ha : vs[i]? = some v := by
      unfold start at h2
      rw [List.getElem?_append_left (by simpa using hi), List.getElem?_map] at h2
      cases e : vs[i]? with
      | none => rw [e] at h2; cases h2
      | some a => rw [e] at h2; cases h2; rfl
    obtain ⟨u, hu, rv⟩ := r.get ha
    have hp : ps[i]? = some y := by
      rw [← S.pre, List.getElem?_take_of_lt (by omega)]; exact h1
    have ndP : ps.Nodup := by rw [← S.pre]; exact S.nd.sublist (List.take_sublist _ _)
    refine ⟨u, rv, ?_⟩
    rcases S.par y (List.mem_of_getElem? hp) with k | k
    · exact .inl ⟨k, bindL_get ndP hp hu k⟩
    · obtain ⟨c, e⟩ := cell_has (n := s.heap.objs.size + 1) k
      refine .inr ⟨.inl k, c, e, ?_⟩
      have q := x.cell y c e
      rw [bindC_get ndP hp hu (by show scope.names.lookup y ≠ _; rw [k]; decide)] at q
      exact q
  · exact e0.hok.fresh (Nat.le_of_lt (x.above y c (PySem.mem_of_lookup h)))
  · unfold start
    show _ = N.length
    rw [List.length_append, List.length_map, List.length_replicate]
    omega

/-- THE RULE: a def (or a method) of the text, by its body. The body's reading t is chosen for each entry; it is run at the parameters' values -/
theorem fn_of {CX : CXT} {P : Program} {w : World} {K : PySem.W.Frag} {mg : Str → Option Value} {base : Heap} {k : Nat} {f : Addr} {name qual : Str} {params : Arguments} {body : List Stmt} {scope : Scope} {dV kV doc pm cdv ct oc : Value} {an od : Option Addr}
    {osl : Array (Option Value)} {N ps : List Str} {sp : Sp} (lk : K.lookup f = some ⟨oc, od, .func (PySem.W.fnOf name qual params body scope dV kV doc pm an cdv ct), osl⟩) (hcd : PySem.W.codeIn K cdv qual = true) (S : FnScope N ps scope)
    (len : ∀ vs H Q E, sp vs H Q E → vs.length = ps.length)
    (hbody : ∀ (A : Around) (outer : List Env) (s : Shared) (H : Hp) (vs : List V) (Q : VK) (E : XK), Room k (A.deeper (envOfC qual scope s.heap.objs.size f cdv)) → sp vs H Q E →
      ∃ t, PSs (cxOf CX P w K mg base N qual scope f cdv A outer s H E) body t ∧ t { nx := fun _ H' => Q .non H', rt := Q } (start N vs) H) :
    FnOk P w K mg base CX (k + 1) f (PySem.W.fnOf name qual params body scope dV kV doc pm an cdv ct) ps sp := by
  refine ⟨len, fun A outer s H args us vs Q E hr e0 hb r hsp => ?_⟩
  have hl := len _ _ _ _ hsp
  have KX : K.In s.heap := e0.mod.kin.keeps fun b o e => (e0.bs b o e).1
  have lim : s.heap.NoLimit := e0.mod.nolimit.keeps fun b o e => (e0.bs b o e).1
  have hkind : ∀ y ∈ ps.zip us, scope.names.lookup y.1 = some .local ∨ (scope.names.lookup y.1 = some .cell ∧ ((cellsFrom (s.heap.objs.size + 1) scope.names []).lookup y.1).isSome = true) := fun ⟨n, v⟩ hy => by
    rcases S.par n (List.of_mem_zip hy).1 with q | q
    · exact .inl q
    · exact .inr ⟨q, PySem.W.cellsFrom_some _ _ _ (.inl q)⟩
  refine codeAny_call_function hr.depth (KX _ _ lk) rfl S.co S.gen rfl (PySem.W.codeRec_of KX hcd) (hb _ _ _ _ ?_)
  refine wpAny_newFunctionEnv_cells S.kind hkind fun env he s1 x => ?_
  subst he
  refine ⟨lim.keeps x.toInCall.keep, codeAny_func ?_⟩
  obtain ⟨t, ht, hq⟩ := hbody A outer s H vs Q E (hr.deeper _) hsp
  have I : Inv (cxOf CX P w K mg base N qual scope f cdv A outer s H E) [] (start N vs) H s1 := inv_start S hr.hd e0 hl r x
  refine wpAny_mono (ht [] s1 (start N vs) H _ I hq) (fun fl s' hs => ?_) fun e s' hs => hs
  have fin : ∀ {σ' : St} {H' : Hp} {v : V} {u : Value}, Inv (cxOf CX P w K mg base N qual scope f cdv A outer s H E) [] σ' H' s' → RelV v u → Q v H' → CE outer P w H s Q u s' :=
    fun {σ' H' v u} J rv q => ⟨v, H', J.os, J.bare, J.base, J.hok, rv, q⟩
  cases fl with
  | ret u =>
    obtain ⟨v, σ', H', J, rv, q⟩ := hs
    exact fin J rv q
  | next =>
    obtain ⟨σ', H', J, q⟩ := hs
    exact fin (v := V.non) (u := Value.none) J rfl q
  | brk =>
    obtain ⟨_, _, _, q⟩ := hs
    exact False.elim q
  | cont =>
    obtain ⟨_, _, _, q⟩ := hs
    exact False.elim q
end L2

namespace L2
open PySem PySem.Spec PyProof.Rows
section
variable {X : Cx} {x : Str} {p pos : Pos} {e : Expr} {es : List Expr} {t : TA} {id T : String} {r : List V → Hp → VK → Prop}

def tCB (r : List V → Hp → VK → Prop) (t : TA) : TE := fun σ H Q => t σ H fun vs H1 => r vs H1 Q
/-- f(e, ..), f a built-in function -/
theorem pe_callB (hc : CallR X (.builtin id) r) (hg : Gl X x) (hm : X.mg x = none) (hv : bootBuiltins x = some (.builtin id)) (ha : PA X (e :: es) t) (hn : x ≠ "__name__" := by decide) (hdb : (x == ("__debug__" : Str)) = false := by decide)
    (he : starEach (e :: es) X.env = (false, eval e X.env) :: starEach es X.env := by rfl) (hpl : (backTo pos (starEach es X.env)).any (·.1) = false := by rfl) : PE X (.Call (.Name x p) (e :: es) [] pos) (tCB r t) := by
  intro pins s σ H Q I h
  refine wpAny_Call_Name_kw (ld_blt I hg hm hv ?_ hn hdb)
  exact PyProof.Rows.callWith_builtin1 (thn (ha pos pins s σ H _ I h) fun us s1 ⟨vs, H1, I1, r1, q1⟩ => hc pins s1 σ H1 vs us Q I1 r1 q1) he hpl
/-- T(e, ..), T a built-in type -/
theorem pe_callTy (hc : CallR X (.type T) r) (hg : Gl X x) (hm : X.mg x = none) (hv : bootBuiltins x = some (.type T)) (ha : PA X (e :: es) t) (hn : x ≠ "__name__" := by decide) (hdb : (x == ("__debug__" : Str)) = false := by decide)
    (he : starEach (e :: es) X.env = (false, eval e X.env) :: starEach es X.env := by rfl) (hpl : (backTo pos (starEach es X.env)).any (·.1) = false := by rfl) : PE X (.Call (.Name x p) (e :: es) [] pos) (tCB r t) := by
  intro pins s σ H Q I h
  refine wpAny_Call_Name_kw (ld_blt I hg hm hv ?_ hn hdb)
  exact PyProof.Rows.callWith_type1 (thn (ha pos pins s σ H _ I h) fun us s1 ⟨vs, H1, I1, r1, q1⟩ => hc pins s1 σ H1 vs us Q I1 r1 q1) he hpl
end
end L2

namespace HT
open PySem PyProof.Rows

/-- t < u of tuples of ints -/
def lexLt : List Int → List Int → Bool
  | [], [] => false
  | [], _ :: _ => true
  | _ :: _, [] => false
  | x :: xs, y :: ys => if x = y then lexLt xs ys else decide (x < y)
theorem lexLt_cons (x y : Int) (xs ys : List Int) : lexLt (x :: xs) (y :: ys) = if x = y then lexLt xs ys else decide (x < y) := rfl
theorem lexLt_nil_nil : lexLt [] [] = false := rfl
theorem lexLt_nil_cons (y : Int) (ys : List Int) : lexLt [] (y :: ys) = true := rfl
theorem lexLt_cons_nil (x : Int) (xs : List Int) : lexLt (x :: xs) [] = false := rfl

theorem eqAt_int (A : Around) (s : Shared) (a : Int) (t : Tok) (c : Int) (u : Tok) : ∃ e, SeqAt.EqAt A s (.int a t) (.int c u) e ∧ (e = true ↔ a = c) :=
  ⟨(a == c), SeqAt.EqAt.int_int a t c u, by simp⟩
theorem rcLt_int (A : Around) (s : Shared) (a : Int) (t : Tok) (c : Int) (u : Tok) (prog : Program) (w : World) (E : Value → Shared → Prop) (Q : Value → Shared → Prop) (h : Q (.bool (decide (a < c))) s) :
    wpAny (model prog w) A (richCompare .Lt (.int a t) (.int c u)) Q E s :=
  (PyProof.Rows.lt_int h : wpAny (model prog w) A (compareOp .Lt (.int a t) (.int c u)) Q E s)

section
open PySem.SeqAt
open PySem.AutoSeq1 (wpAny_loadPart')
open PySem.MeetsSeq PySem.MeetsSeq2 PySem.MeetsSeq3

theorem tuple_lt_ints (l b : Addr) (items items2 : Array Value) (n n2 : Nat) (dd dd2 : Option Addr) (sl sl2 : Array (Option Value)) (ns ms : List Int) (hi : IntsAre items.toList ns) (hj : IntsAre items2.toList ms) :
    Meets (Builtin.«tuple.__lt__» ⟨[.ref l, .ref b], []⟩)
      (fun _ R s => s.heap.get? l = some { cls := .type "tuple", dict := dd, data := .seq items n, slots := sl } ∧ s.heap.get? b = some { cls := .type "tuple", dict := dd2, data := .seq items2 n2, slots := sl2 } ∧
        R (.ok (.ret (.bool (lexLt ns ms)))) s) :=
  .of_wp fun prog w A R s h => by
    obtain ⟨hp, g, d, tk, os⟩ := s; obtain ⟨hl, hb, h⟩ := h
    have f2 := AutoSeq1.sub_tuple_tuple
    have z1 : items.size = ns.length := by rw [← hi.length]; simp
    have z2 : items2.size = ms.length := by rw [← hj.length]; simp
    wp_walk using wpAny_loadPart' hl, wpAny_loadPart' hb, wpAny_forIn_list _ (fun rest b s' => b.1 = none ∧ s' = ⟨hp, g, d, tk, os⟩ ∧ ∃ (vs ws : List Value) (ns' ms' : List Int), rest = vs.zip ws ∧
      IntsAre vs ns' ∧ IntsAre ws ms' ∧ ns'.length + items2.size = ms'.length + items.size ∧ R (.ok (.ret (.bool (lexLt ns' ms')))) ⟨hp, g, d, tk, os⟩) _
    case turn =>
      rintro ⟨y, x⟩ rest b s' ⟨hb', rfl, vs, ws, ns', ms', hz, hvi, hwi, hlen, hR⟩
      cases hvi with
      | nil => rw [List.zip_nil_left] at hz; cases hz
      | cons a t hvi' =>
        cases hwi with
        | nil => rw [List.zip_nil_right] at hz; cases hz
        | cons c u hwi' =>
          rw [List.zip_cons_cons] at hz
          injection hz with hyx hrest
          injection hyx with hy hx
          subst hy hx
          rw [lexLt_cons] at hR
          simp only [List.length_cons] at hlen
          obtain ⟨e, he, hiff⟩ := eqAt_int A.in1 ⟨hp, g, d, tk, os⟩ a t c u
          refine wpAny_bind (he prog w _ _ ?_)
          cases e with
          | true =>
            rw [if_pos (hiff.mp rfl)] at hR
            wp_walk
            exact ⟨rfl, rfl, _, _, _, _, hrest, hvi', hwi', by omega, hR⟩
          | false =>
            rw [if_neg (fun q => absurd (hiff.mpr q) Bool.false_ne_true)] at hR
            have hri := rcLt_int A.in1 ⟨hp, g, d, tk, os⟩ a t c u prog w
            wp_walk using hri
            exact ⟨_, rfl, by simpa using hR⟩
    case fin =>
      rintro ⟨b1, b2⟩ s' ⟨hb', rfl, vs, ws, ns', ms', hz, hvi, hwi, hlen, hR⟩
      simp only at hb'
      subst hb'
      have hv : lexLt ns' ms' = decide (items.size < items2.size) := by
        cases hvi with
        | nil =>
          cases hwi with
          | nil =>
            simp only [List.length_nil] at hlen
            rw [lexLt_nil_nil]
            exact (decide_eq_false (by omega)).symm
          | cons c u hw =>
            simp only [List.length_nil, List.length_cons] at hlen
            rw [lexLt_nil_cons]
            exact (decide_eq_true (by omega)).symm
        | cons a t hv =>
          cases hwi with
          | nil =>
            simp only [List.length_nil, List.length_cons] at hlen
            rw [lexLt_cons_nil]
            exact (decide_eq_false (by omega)).symm
          | cons c u hw =>
            rw [List.zip_cons_cons] at hz
            cases hz
      rw [hv] at hR
      wp_walk
      exact ⟨_, rfl, by simpa [Builtin.Tuple.tupleCompareSizes] using hR⟩
    case h =>
      exact ⟨rfl, rfl, items.toList, items2.toList, ns, ms, rfl, hi, hj, by omega, h⟩
end

section
variable {prog : Program} {w : World} {A : Around} {E : Value → Shared → Prop} {s : Shared}

theorem lt_tupInts {l b : Addr} {items items2 : Array Value} {ns ms : List Int} {Q : Value → Shared → Prop} (hl : IsTup s.heap l items) (hb : IsTup s.heap b items2) (hi : IntsAre items.toList ns) (hj : IntsAre items2.toList ms)
    (hu : A.units < cLine) (h : Q (.bool (lexLt ns ms)) s) : wpAny (model prog w) A (compareOp .Lt (.ref l) (.ref b)) Q E s := by
  obtain ⟨⟨cls, dd, data, sl⟩, ho, hc, n, hd⟩ := id hl
  obtain ⟨⟨cls2, dd2, data2, sl2⟩, ho2, hc2, n2, hd2⟩ := id hb
  simp only at hc hd hc2 hd2
  subst hc hd hc2 hd2
  exact richCompare_meets_room (op := .Lt) ⟨_, ho, rfl⟩ ⟨_, ho2, rfl⟩ PySem.F.slot_tuple_lt PySem.F.entry_tuple_lt (PySem.F.args_tuple_lt_2 _ _) (tuple_lt_ints l b items items2 n n2 dd dd2 sl sl2 ns ms hi hj)
    ⟨ho, ho2, show Value.bool (lexLt ns ms) ≠ Value.notImplemented ∧ Q (.bool (lexLt ns ms)) s from ⟨(fun x => nomatch x), h⟩⟩ hu

/-- t + u, t not empty -/
theorem cat_tup {t b : Addr} {vs ws : List Value} {Q : Value → Shared → Prop} (ht : IsTup s.heap t vs.toArray) (hb : IsTup s.heap b ws.toArray) (hv : vs ≠ [])
    (h1 : ws = [] → Q (.ref t) s) (h2 : ws ≠ [] → Q (.ref s.heap.objs.size) { s with heap := s.heap.push { cls := .type "tuple", data := .seq (vs ++ ws).toArray } })
    (hsz : vs.length + ws.length ≤ sizeLine) : wpAny (model prog w) A (binaryOp .Add (.ref t) (.ref b)) Q E s := by
  obtain ⟨⟨cls, dd, data, sl⟩, ho, hc, n, hd⟩ := id ht
  obtain ⟨⟨cls2, dd2, data2, sl2⟩, ho2, hc2, n2, hd2⟩ := id hb
  simp only at hc hd hc2 hd2
  subst hc hd hc2 hd2
  have e : vs.toArray ++ ws.toArray = (vs ++ ws).toArray := by simp
  by_cases hw : ws = []
  · exact concat_meets ⟨_, ho, rfl⟩ ⟨_, ho2, rfl⟩ noFill_tuple_add seq_tuple_add PySem.F.slot_tuple_add PySem.F.entry_tuple_add (PySem.F.args_tuple_add_2 _ _)
      (tuple_addW1 t b vs.toArray ws.toArray n n2 dd dd2 sl sl2 (by simpa using hv) (by simp [hw])) ⟨ho, ho2, h1 hw⟩
  · refine concat_meets ⟨_, ho, rfl⟩ ⟨_, ho2, rfl⟩ noFill_tuple_add seq_tuple_add PySem.F.slot_tuple_add PySem.F.entry_tuple_add (PySem.F.args_tuple_add_2 _ _)
      (tuple_addW2 t b vs.toArray ws.toArray n n2 dd dd2 sl sl2 (by simpa using hv) (by simpa using hw) (by rw [List.size_toArray, List.size_toArray]; exact hsz)) ⟨ho, ho2, ?_⟩
    rw [e]
    exact h2 hw

/-! ### t[a:b], not the whole -/
/-- a slice's bound as a place among n (d where it is left out) -/
def sIx (n d : Nat) : Option Int → Nat
  | none => d
  | some v => if v < 0 then (v + (n : Int)).toNat else min v.toNat n
end
end HT

namespace L2
open PySem PySem.Spec PyProof.Rows

/-! ### the parts of a slice -/
abbrev TO := St → Hp → (Option Int → Hp → Prop) → Prop
/-- a slice's part (left out, or an int) -/
def PO (X : Cx) (e : Option Expr) (t : TO) : Prop :=
  ∀ (pins : List (Addr × Obj)) (s : Shared) (σ : St) (H : Hp) (Q : Option Int → Hp → Prop), Inv X pins σ H s → t σ H Q →
    wpAny (model X.prog X.w) X.A (evalPart e X.env) (fun u s' => ∃ o H', Inv X pins σ H' s' ∧ IsPart u o ∧ Q o H') X.xe s
def tNoPart : TO := fun _ H Q => Q none H
def tPart (t : TE) : TO := fun σ H Q => t σ H fun x H1 => ∃ i, x = .int i ∧ Q (some i) H1

theorem intsAre_of {ns : List Int} : ∀ {us : List Value}, Vals (ns.map V.int) us → IntsAre us ns := by
  induction ns with
  | nil => intro us r; rw [List.map_nil] at r; cases r; exact .nil
  | cons n ns ih =>
    intro us r
    rw [List.map_cons] at r
    cases r with
    | cons r1 r2 =>
      obtain ⟨t, e⟩ := r1
      subst e
      exact .cons n t (ih r2)

section
variable {X : Cx} {e : Expr} {te : TE} {lo hi : Option Expr} {tl th : TO} {pos p2 : Pos}

/-- what a slice of a value is, by values: the slice object stands at sl -/
def SlR (X : Cx) (r : V → Option Int → Option Int → Hp → VK → Prop) : Prop :=
  ∀ (pins : List (Addr × Obj)) (s : Shared) (σ : St) (H : Hp) (x : V) (v vl vu : Value) (lo hi : Option Int) (sl : Addr) (Q : VK), Inv X pins σ H s → RelV x v → s.heap.IsSliceOf sl vl vu .none → IsPart vl lo → IsPart vu hi → r x lo hi H Q →
    ∃ T id, typeLookup (.type T) "__getitem__" = pure (some (.builtin id)) ∧ s.TypeIs v T ∧ wpAny (model X.prog X.w) X.A (getItem v (.ref sl)) (EP X pins σ Q) X.xe s
def tSl (r : V → Option Int → Option Int → Hp → VK → Prop) (te : TE) (tl th : TO) : TE := fun σ H Q => te σ H fun x H1 => tl σ H1 fun l H2 => th σ H2 fun u H3 => r x l u H3 Q
/-- the items of xs[lo:hi] -/
def cutV (xs : List V) (lo hi : Option Int) : List V := (xs.drop (HT.sIx xs.length 0 lo)).take (HT.sIx xs.length xs.length hi - HT.sIx xs.length 0 lo)
/-- t[lo:hi], not the whole of it (the whole would be t itself) -/
def rSlT (K : PySem.W.Frag) : V → Option Int → Option Int → Hp → VK → Prop := fun x lo hi H Q => ∃ a xs, x = .ref a ∧ SqT K H a xs ∧
  ¬ (HT.sIx xs.length 0 lo = 0 ∧ HT.sIx xs.length xs.length hi = xs.length) ∧ ∀ p, H p = none → Q (.ref p) (upd H p (.tup (cutV xs lo hi)))
/-! ### t < u, t + u -/
def rLtT (K : PySem.W.Frag) : R2 := fun x y H Q => ∃ a b ns ms, x = .ref a ∧ y = .ref b ∧ SqT K H a (ns.map V.int) ∧ SqT K H b (ms.map V.int) ∧ Q (.bl (HT.lexLt ns ms)) H
theorem op_ltT (hu : X.A.units < cLine) : OpR X (compareOp .Lt) (rLtT X.K) := by
  intro pins s σ H x y v u Q I rx ry h
  obtain ⟨a, b, ns, ms, rfl, rfl, ha, hb, q⟩ := h
  cases rx
  cases ry
  obtain ⟨its, r1, p1, _⟩ := I.tuple ha
  obtain ⟨its2, r2, p2, _⟩ := I.tuple hb
  have i1 : IntsAre its.toArray.toList ns := intsAre_of r1
  have i2 : IntsAre its2.toArray.toList ms := intsAre_of r2
  exact HT.lt_tupInts p1 p2 i1 i2 hu ⟨.bl (HT.lexLt ns ms), H, I, rfl, q⟩
/-- t + u, t not empty: u empty gives t itself -/
def rCatT (K : PySem.W.Frag) : R2 := fun x y H Q => ∃ a b xs ys, x = .ref a ∧ y = .ref b ∧ SqT K H a xs ∧ SqT K H b ys ∧ xs ≠ [] ∧ xs.length + ys.length ≤ sizeLine ∧
  (ys = [] → Q (.ref a) H) ∧ (ys ≠ [] → ∀ p, H p = none → Q (.ref p) (upd H p (.tup (xs ++ ys))))
theorem Vals.nil_iff {xs : List V} {us : List Value} (r : Vals xs us) : us = [] ↔ xs = [] := by
  cases r with
  | nil => simp
  | cons _ _ => simp
theorem op_catT : OpR X (binaryOp .Add) (rCatT X.K) := by
  intro pins s σ H x y v u Q I rx ry h
  obtain ⟨a, b, xs, ys, rfl, rfl, ha, hb, hx, hz, q1, q2⟩ := h
  cases rx
  cases ry
  obtain ⟨its, r1, p1, _⟩ := I.tuple ha
  obtain ⟨its2, r2, p2, _⟩ := I.tuple hb
  refine HT.cat_tup p1 p2 (fun z => hx (r1.nil_iff.mp z)) (fun z => ⟨.ref a, H, I, rfl, q1 (r2.nil_iff.mp z)⟩) (fun z => ?_) (by rw [← r1.length, ← r2.length]; exact hz)
  refine ⟨.ref s.heap.objs.size, _, I.laid (t' := s.toks) (o := .tup (xs ++ ys)) (fun b ob q => Heap.get?_push_of_some _ q) (Nat.le_refl _) ?_, rfl, q2 (fun w => z (r2.nil_iff.mpr w)) _ (I.hok.fresh (Nat.le_refl _))⟩
  exact ⟨by rw [List.length_append]; exact hz, _, r1.append r2, IsTup.new _ _⟩
end
end L2

namespace L2
open PySem PySem.Spec PyProof.Rows

/-! ### places -/
/-- the place that an index of any sign means -/
def ixN (n : Nat) (i : Int) : Option Nat := if 0 ≤ i then (if i < n then some i.toNat else none) else if -(n : Int) ≤ i then some (i + n).toNat else none
def atI {α : Type} (xs : List α) (i : Int) : Option α := (ixN xs.length i).bind fun j => xs[j]?
theorem ixN_seq {n : Nat} {i : Int} {j : Nat} (h : ixN n i = some j) : seqIndex? i n = some j ∧ j < n ∧ -(n : Int) ≤ i ∧ i < n := by
  unfold ixN at h
  by_cases h0 : 0 ≤ i
  · rw [if_pos h0] at h
    by_cases h1 : i < n
    · rw [if_pos h1] at h
      have e : i.toNat = j := Option.some.inj h
      exact ⟨by rw [seqIndex_of h0 h1, e], by omega, by omega, h1⟩
    · rw [if_neg h1] at h; cases h
  · rw [if_neg h0] at h
    by_cases h1 : -(n : Int) ≤ i
    · rw [if_pos h1] at h
      have e : (i + n).toNat = j := Option.some.inj h
      exact ⟨by rw [seqIndex_neg (by omega) h1, e], by omega, h1, by omega⟩
    · rw [if_neg h1] at h; cases h
theorem atI_get {α : Type} {xs : List α} {i : Int} {v : α} (h : atI xs i = some v) : ∃ j, seqIndex? i xs.length = some j ∧ xs[j]? = some v ∧ j < xs.length ∧ -(xs.length : Int) ≤ i ∧ i < xs.length := by
  unfold atI at h
  cases e : ixN xs.length i with
  | none => rw [e] at h; cases h
  | some j =>
    rw [e] at h
    obtain ⟨h1, h2, h3, h4⟩ := ixN_seq e
    exact ⟨j, h1, h, h2, h3, h4⟩
theorem atI_nat {α : Type} {xs : List α} {j : Nat} {v : α} (h : xs[j]? = some v) : atI xs (j : Int) = some v := by
  have hj : j < xs.length := (List.getElem?_eq_some_iff.mp h).1
  have e : ixN xs.length (j : Int) = some j := by
    unfold ixN
    rw [if_pos (by omega), if_pos (by omega)]; simp
  unfold atI; rw [e]; exact h
/-! ### what may be subscripted -/
/-- what stands as an index of a plain subscript -/
def PlainIx (b : Expr) : Prop := ∀ o i, subscripted b false o i = operate [o, i] (getItem o i)
/-- a subscript by values -/
def IxR (X : Cx) (r : R2) : Prop :=
  ∀ (value slice : Expr) (pins : List (Addr × Obj)) (s : Shared) (σ : St) (H : Hp) (x y : V) (v u : Value) (Q : VK), Inv X pins σ H s → RelV x v → RelV y u → r x y H Q →
    subscripted slice false v u = operate [v, u] (getItem v u) → wpAny (model X.prog X.w) X.A (subscriptTail value slice v u) (EP X pins σ Q) X.xe s
/-- a call of a builtin's method by values: the receiver, the arguments -/
def MtR (X : Cx) (id : String) (r : V → List V → Hp → VK → Prop) : Prop :=
  ∀ (pins : List (Addr × Obj)) (s : Shared) (σ : St) (H : Hp) (x : V) (xs : List V) (v : Value) (us : List Value) (Q : VK), Inv X pins σ H s → RelV x v → Vals xs us → r x xs H Q →
    wpAny (model X.prog X.w) X.A (call (.builtin id) (v :: us)) (EP X pins σ Q) X.xe s
section
variable {X : Cx} {a b : Expr} {ta tb : TE} {pos : Pos}
/-- a[b] -/
theorem pe_ix {r : R2} (hr : IxR X r) (ha : PE X a ta) (hb : PE X b tb) (hs : PlainIx b) : PE X (.Subscript a b pos) (tOp r ta tb) := by
  intro pins s σ H Q I h
  exact Subscript_ (binT ha hb I h fun v u s2 x y H2 I2 rx ry q => hr a b pins s2 σ H2 x y v u Q I2 rx ry q (hs _ _))

def rIxL (K : PySem.W.Frag) : R2 := fun x y H Q => ∃ p xs i v, x = .ref p ∧ y = .int i ∧ SqL K H p xs ∧ atI xs i = some v ∧ Q v H
def rIxT (K : PySem.W.Frag) : R2 := fun x y H Q => ∃ p xs i v, x = .ref p ∧ y = .int i ∧ SqT K H p xs ∧ atI xs i = some v ∧ Q v H
def rIxS : R2 := fun x y H Q => ∃ z i c, x = .str z ∧ y = .int i ∧ z.length ≤ sizeLine ∧ atI z.cps.toList i = some c ∧ Q (.str ⟨#[c]⟩) H
theorem ix_list : IxR X (rIxL X.K) := by
  intro value slice pins s σ H x y v u Q I rx ry h hs
  obtain ⟨p, xs, i, z, rfl, rfl, hq, he, q⟩ := h
  cases rx
  obtain ⟨t, rfl⟩ := ry
  obtain ⟨its, r, pl, hz⟩ := I.list hq
  obtain ⟨j, h1, h2, h3, h4, h5⟩ := atI_get he
  obtain ⟨w, ew, rw'⟩ := r.get h2
  have hl := r.length
  have hn := line63
  have fin : EP X pins σ Q w s := ⟨z, H, I, rw', q⟩
  by_cases h0 : 0 ≤ i
  · have hj : i.toNat = j := by
      rw [seqIndex_of h0 h5] at h1
      exact Option.some.inj h1
    exact item_listR pl.isList h0 (by omega) (by rw [hj]; simpa using ew) fin hs
  · have hj : (i + (its.toArray.size : Int)).toNat = j := by
      rw [seqIndex_neg (by omega) h4] at h1
      rw [List.size_toArray, ← hl]
      exact Option.some.inj h1
    exact subscriptTail_builtinR (x := w) pl.isList.typeIs slot_list_getitem.lookup
      (wpAny_getItem_list_neg (Q := fun r s' => r = w ∧ EP X pins σ Q r s') pl.isList (by omega) (by rw [List.size_toArray] <;> omega) (by omega) (by rw [hj]; simpa using ew) ⟨rfl, fin⟩) hs
theorem ix_tup : IxR X (rIxT X.K) := by
  intro value slice pins s σ H x y v u Q I rx ry h hs
  obtain ⟨p, xs, i, z, rfl, rfl, hq, he, q⟩ := h
  cases rx
  obtain ⟨t, rfl⟩ := ry
  obtain ⟨its, r, pl, hz⟩ := I.tuple hq
  obtain ⟨j, h1, h2, h3, h4, h5⟩ := atI_get he
  obtain ⟨w, ew, rw'⟩ := r.get h2
  have hl := r.length
  have hn := line63
  have fin : EP X pins σ Q w s := ⟨z, H, I, rw', q⟩
  exact subscriptTail_builtinR (x := w) pl.typeIs slot_tuple_getitem.lookup
    (getItem_tuple (j := j) (Q := fun r s' => r = w ∧ EP X pins σ Q r s') pl (by omega) (by omega) (by rw [List.size_toArray, ← hl]; exact h1) (by simpa using ew) ⟨rfl, fin⟩) hs
theorem ix_str : IxR X rIxS := by
  intro value slice pins s σ H x y v u Q I rx ry h hs
  obtain ⟨z, i, c, rfl, rfl, hz, he, q⟩ := h
  obtain ⟨t, rfl⟩ := rx
  obtain ⟨t', rfl⟩ := ry
  obtain ⟨j, h1, h2, h3, h4, h5⟩ := atI_get he
  have hl : z.cps.toList.length = z.length := by simp [Str.length]
  rw [hl] at h1 h4 h5
  have hn := line63
  exact tail_any (typeIs_str s z t) slot_str_getitem.lookup (getItem_str (c := c) (by
    have e1 : decide (i < -(2 ^ 63 : Int)) = false := decide_eq_false (by omega)
    have e2 : decide (i ≥ 2 ^ 63) = false := decide_eq_false (by omega)
    rw [e1, e2, Bool.or_false]) (by rw [h1]; simpa using h2) ⟨.str ⟨#[c]⟩, H, I.tok _, ⟨_, rfl⟩, q⟩) hs
/-- list, tuple or str -/
def rIx (K : PySem.W.Frag) : R2 := fun x y H Q => rIxL K x y H Q ∨ rIxT K x y H Q ∨ rIxS x y H Q
/-! ### xs[i] = v, any sign -/
/-- the list's object behind a store -/
theorem mapSeq_set (its : List Value) (n j : Nat) (u : Value) : Obj.mapSeq (·.setIfInBounds j u) { cls := .type "list", data := .seq its.toArray n } = { cls := .type "list", data := .seq (its.set j u).toArray n } := by
  simp [Obj.mapSeq]
theorem Inv.lst {pins : List (Addr × Obj)} {σ : St} {H : Hp} {s : Shared} {p : Addr} {xs : List V} (I : Inv X pins σ H s) (h : H p = some (.lst xs)) :
    ∃ (its : List Value) (n : Nat), Vals xs its ∧ s.heap.get? p = some { cls := .type "list", data := .seq its.toArray n } ∧ xs.length ≤ sizeLine := by
  obtain ⟨z, its, n, r, e⟩ := I.hok p _ h
  exact ⟨its, n, r, e, z⟩
/-- the list at p is written by an update of its object -/
theorem Inv.lstUpd {pins : List (Addr × Obj)} {σ : St} {H : Hp} {s : Shared} {p : Addr} {xs ys : List V} {its its' : List Value} {n n' : Nat} {f : Obj → Obj} (I : Inv X pins σ H s) (h : H p = some (.lst xs))
    (ho : s.heap.get? p = some { cls := .type "list", data := .seq its.toArray n }) (hf : f { cls := .type "list", data := .seq its.toArray n } = { cls := .type "list", data := .seq its'.toArray n' }) (r : Vals ys its') (hz : ys.length ≤ sizeLine) (t : Nat) :
    Inv X pins σ (upd H p (.lst ys)) { s with heap := s.heap.update p f, toks := t } := by
  have e : (s.heap.update p f).get? p = some { cls := .type "list", data := .seq its'.toArray n' } := by
    rw [Heap.get?_update_self f ho (by rw [hf] <;> rfl), hf]
  refine I.write (x := p) (e := p) (by rw [h]; trivial) (.inl rfl) (fun b u hb q => (Heap.get?_update_other _ _ (Ne.symm hb)).trans q) ⟨_, e⟩ ?_
  exact ⟨hz, its', n', r, e⟩
def rSetL : V → V → V → Hp → (Hp → Prop) → Prop := fun o i v H Q => ∃ p xs k j, o = .ref p ∧ i = .int k ∧ H p = some (.lst xs) ∧ ixN xs.length k = some j ∧ Q (upd H p (.lst (xs.set j v)))
theorem set_list : PSet X rSetL := by
  intro pins s σ H o i v ov iv u Q I ro ri rv h
  obtain ⟨p, xs, k, j, rfl, rfl, hp, hj, q⟩ := h
  cases ro
  obtain ⟨t, rfl⟩ := ri
  obtain ⟨its, n, r, ho, hz⟩ := I.lst hp
  obtain ⟨h1, h2, h3, h4⟩ := ixN_seq hj
  have hl := r.length
  have hn := line63
  have I' : Inv X pins σ (upd H p (.lst (xs.set j v))) { s with heap := s.heap.update p (Obj.mapSeq (·.setIfInBounds j u)) } :=
    I.lstUpd hp ho (mapSeq_set its n j u) (r.set rv j) (by rw [List.length_set]; exact hz) s.toks
  by_cases h0 : 0 ≤ k
  · have hk : k.toNat = j := by
      rw [seqIndex_of h0 h4] at h1
      exact Option.some.inj h1
    exact PySem.W.ki_setAt ho h0 (by omega) (by rw [List.size_toArray, ← hl]; exact h4) (by rw [hk]; exact ⟨_, I', q⟩)
  · have hk : (k + (its.toArray.size : Int)).toNat = j := by
      rw [seqIndex_neg (by omega) h3] at h1
      rw [List.size_toArray, ← hl]
      exact Option.some.inj h1
    exact PySem.W.ki_setBack ho (by omega) (by rw [List.size_toArray, ← hl]; exact h3) (by omega) (by rw [hk]; exact ⟨_, I', q⟩)

/-! ### slices -/
/-- xs[lo:hi] of a list: a new list -/
def rSlL (K : PySem.W.Frag) : V → Option Int → Option Int → Hp → VK → Prop := fun x lo hi H Q => ∃ a xs, x = .ref a ∧ SqL K H a xs ∧ ∀ p, H p = none → Q (.ref p) (upd H p (.lst (cutV xs lo hi)))
/-! ### in, not in: flat items -/
def flatV : V → Bool
  | .non => true
  | .bl _ => true
  | .int _ => true
  | .str _ => true
  | _ => false
/-- == of flat values -/
def eqV : V → V → Bool
  | .non, .non => true
  | .bl a, .bl b => a == b
  | .bl a, .int b => (if a then 1 else 0) == b
  | .int a, .bl b => a == (if b then 1 else 0)
  | .int a, .int b => a == b
  | .str a, .str b => a == b
  | _, _ => false
theorem eqAt_V {A : Around} {s : Shared} {y x : V} {u v : Value} (ry : RelV y u) (rx : RelV x v) (fy : flatV y = true) (fx : flatV x = true) : SeqAt.EqAt A s u v (eqV y x) := by
  cases y with
  | non =>
    cases ry
    cases x with
    | non => cases rx; exact SeqAt.EqAt.same _
    | bl b => cases rx; exact SeqAt.EqAt.none_bool b
    | int b => obtain ⟨t, rfl⟩ := rx; exact SeqAt.EqAt.none_int b t
    | str b => obtain ⟨t, rfl⟩ := rx; exact SeqAt.EqAt.none_str b t
    | _ => exact absurd (show false = true from fx) Bool.false_ne_true
  | bl a =>
    cases ry
    cases x with
    | non => cases rx; exact SeqAt.EqAt.bool_none a
    | bl b => cases rx; exact SeqAt.EqAt.bool_bool a b
    | int b => obtain ⟨t, rfl⟩ := rx; exact SeqAt.EqAt.bool_int a b t
    | str b => obtain ⟨t, rfl⟩ := rx; exact SeqAt.EqAt.bool_str a b t
    | _ => exact absurd (show false = true from fx) Bool.false_ne_true
  | int a =>
    obtain ⟨t', rfl⟩ := ry
    cases x with
    | non => cases rx; exact SeqAt.EqAt.int_none a t'
    | bl b => cases rx; exact SeqAt.EqAt.int_bool a t' b
    | int b => obtain ⟨t, rfl⟩ := rx; exact SeqAt.EqAt.int_int a t' b t
    | str b => obtain ⟨t, rfl⟩ := rx; exact SeqAt.EqAt.int_str a t' b t
    | _ => exact absurd (show false = true from fx) Bool.false_ne_true
  | str a =>
    obtain ⟨t', rfl⟩ := ry
    cases x with
    | non => cases rx; exact SeqAt.EqAt.str_none a t'
    | bl b => cases rx; exact SeqAt.EqAt.str_bool a t' b
    | int b => obtain ⟨t, rfl⟩ := rx; exact SeqAt.EqAt.str_int a t' b t
    | str b => obtain ⟨t, rfl⟩ := rx; exact SeqAt.EqAt.str_str a t' b t
    | _ => exact absurd (show false = true from fx) Bool.false_ne_true
  | _ => exact absurd (show false = true from fy) Bool.false_ne_true
/-- the items' answers, read off the values (a value's own answer does not lean on its token) -/
def eqU (x : V) (u : Value) : Bool := match u with
  | .none => eqV .non x
  | .bool b => eqV (.bl b) x
  | .int i _ => eqV (.int i) x
  | .str z _ => eqV (.str z) x
  | _ => false
def inV (x : V) (xs : List V) : Bool := xs.any fun y => eqV y x
/-- x in a list or tuple of flat items -/
def rIn (K : PySem.W.Frag) (neg : Bool) : R2 := fun x y H Q => ∃ p xs, y = .ref p ∧ (SqL K H p xs ∨ SqT K H p xs) ∧ flatV x = true ∧ xs.all flatV = true ∧ Q (.bl (if neg then !inV x xs else inV x xs)) H
/-! ### len, list(x), tuple(x) of any list or tuple that is read -/
theorem call_len_seq : CallR X (.builtin "len") (fun xs H Q => ∃ p ys, xs = [.ref p] ∧ (SqL X.K H p ys ∨ SqT X.K H p ys) ∧ Q (.int ys.length) H) := by
  intro pins s σ H xs us Q I r h
  obtain ⟨p, ys, rfl, hq, q⟩ := h
  obtain ⟨u, rfl, rx⟩ := vals1 r
  cases rx
  have hn := line63
  rcases hq with hq | hq
  · obtain ⟨its, r', pl, hz⟩ := I.list hq
    have hlen := r'.length
    exact Calls.call_len_list pl.isList (by simp only [List.size_toArray] <;> omega) ⟨.int ys.length, H, I.tok _, ⟨s.toks + 1, by rw [List.size_toArray, hlen]⟩, q⟩
  · obtain ⟨its, r', pl, hz⟩ := I.tuple hq
    have hlen := r'.length
    exact len_tuple pl (by simp only [List.size_toArray] <;> omega) ⟨.int ys.length, H, I.tok _, ⟨s.toks + 1, by rw [List.size_toArray, hlen]⟩, q⟩
theorem call_len_str : CallR X (.builtin "len") (fun xs H Q => ∃ z, xs = [.str z] ∧ z.length ≤ sizeLine ∧ Q (.int z.length) H) := by
  intro pins s σ H xs us Q I r h
  obtain ⟨z, rfl, hz, q⟩ := h
  obtain ⟨u, rfl, t, rfl⟩ := vals1 r
  have hn := line63
  exact len_str (by omega) ⟨.int z.length, H, I.tok _, ⟨_, rfl⟩, q⟩
theorem call_tuple_of : CallR X (.type "tuple") (fun xs H Q => ∃ p ys, xs = [.ref p] ∧ ((SqL X.K H p ys ∧ ∀ l, H l = none → Q (.ref l) (upd H l (.tup ys))) ∨ (SqT X.K H p ys ∧ Q (.ref p) H))) := by
  intro pins s σ H xs us Q I r h
  obtain ⟨p, ys, rfl, h⟩ := h
  obtain ⟨u, rfl, rx⟩ := vals1 r
  cases rx
  rcases h with ⟨hq, q⟩ | ⟨hq, q⟩
  · obtain ⟨its, r', pl, hz⟩ := I.list hq
    have hlen := r'.length
    refine call_tuple_list pl.isList (fun h' kp => ?_) (by simp only [List.size_toArray] <;> omega)
    have I1 : Inv X pins σ H { s with heap := h' } := I.kept (t' := s.toks) kp
    have I2 : Inv X pins σ (upd H h'.objs.size (.tup ys)) { s with heap := h'.push { cls := .type "tuple", data := .seq its.toArray } } :=
      I1.laid (t' := s.toks) (fun b o e => Heap.get?_push_of_some _ e) (Nat.le_refl _) (show ObjOk X.prog X.w _ _ _ (.tup ys) from ⟨hz, its, r', IsTup.new _ _⟩)
    exact ⟨.ref h'.objs.size, _, I2, rfl, q _ (I1.hok.fresh (Nat.le_refl _))⟩
  · obtain ⟨its, r', pl, hz⟩ := I.tuple hq
    exact call_tuple_same pl ⟨.ref p, H, I, rfl, q⟩

/-! ### the call of a builtin's method: o.m(..) -/
/-- the value is of that builtin type -/
def tyV (K : PySem.W.Frag) (T : String) (x : V) (H : Hp) : Prop := match x with
  | .str _ => T = "str"
  | .int _ => T = "int"
  | .ref p => (T = "list" ∧ ∃ xs, SqL K H p xs) ∨ (T = "tuple" ∧ ∃ o, K.lookup p = some o ∧ o.cls = .type "tuple" ∧ o.dict = none) ∨
      (T = "dict" ∧ ((∃ kvs, H p = some (.dK kvs)) ∨ ∃ kvs, H p = some (.dT kvs))) ∨ (T = "set" ∧ ∃ S n, H p = some (.set S n))
  | _ => False
theorem tyV_is {pins : List (Addr × Obj)} {σ : St} {H : Hp} {s : Shared} {T : String} {x : V} {v : Value} (I : Inv X pins σ H s) (r : RelV x v) (ty : tyV X.K T x H) :
    s.TypeIs v T ∧ ∀ a, v = .ref a → ∃ ob, s.heap.get? a = some ob ∧ ob.dict = none := by
  cases x with
  | str z =>
    obtain ⟨t, rfl⟩ := r
    cases (show T = "str" from ty)
    exact ⟨typeIs_str s z t, fun _ e => nomatch e⟩
  | int i =>
    obtain ⟨t, rfl⟩ := r
    cases (show T = "int" from ty)
    exact ⟨typeIs_int s i t, fun _ e => nomatch e⟩
  | ref p =>
    cases r
    rcases ty with ⟨rfl, xs, hq⟩ | ⟨rfl, o, hk, hc, hd⟩ | ⟨rfl, hk⟩ | ⟨rfl, S, n, hk⟩
    · obtain ⟨its, _, pl, _⟩ := I.list hq
      refine ⟨pl.isList.typeIs, fun a e => ?_⟩
      cases e
      obtain ⟨o, n, e, c, hd, _⟩ := pl
      exact ⟨o, e, hd⟩
    · refine ⟨⟨o, I.kIn p o hk, hc⟩, fun a e => ?_⟩
      cases e
      exact ⟨o, I.kIn _ o hk, hd⟩
    · have z : ∃ o, s.heap.get? p = some o ∧ o.ExactDict := by
        rcases hk with ⟨kvs, hk⟩ | ⟨kvs, hk⟩
        · obtain ⟨_, _, _, _, o, _, _, e, ex, _⟩ := I.hok p _ hk
          exact ⟨o, e, ex⟩
        · obtain ⟨_, _, _, _, o, _, _, e, ex, _⟩ := I.hok p _ hk
          exact ⟨o, e, ex⟩
      obtain ⟨o, e, ex⟩ := z
      refine ⟨⟨o, e, ex.1⟩, fun a e2 => ?_⟩
      cases e2
      exact ⟨o, e, ex.2.1⟩
    · obtain ⟨o, _, _, _, e, ex, _⟩ := I.hok p _ hk
      refine ⟨⟨o, e, ex.1⟩, fun a e2 => ?_⟩
      cases e2
      exact ⟨o, e, ex.2.1⟩
  | _ => exact False.elim ty
def tBM0 (K : PySem.W.Frag) (T : String) (r : V → List V → Hp → VK → Prop) (to : TE) : TE := fun σ H Q => to σ H fun x H1 => tyV K T x H1 ∧ r x [] H1 Q
def tBM (K : PySem.W.Frag) (T : String) (r : V → List V → Hp → VK → Prop) (to : TE) (t : TA) : TE := fun σ H Q => to σ H fun x H1 => tyV K T x H1 ∧ t σ H1 fun xs H2 => r x xs H2 Q
variable {o e : Expr} {es : List Expr} {to : TE} {t : TA} {name : Str} {apos cpos : Pos} {T id : String} {r : V → List V → Hp → VK → Prop}
/- xs.append(e), list.index on a module's tuple .. are MtR facts of 06m -/
end
end L2

namespace L2
open PySem PySem.Spec PyProof.Rows

def MtM (X : Cx) (id : String) (r : V → List V → Hp → VK → Prop) : Prop :=
  ∀ (pins : List (Addr × Obj)) (s : Shared) (σ : St) (H : Hp) (x : V) (xs : List V) (v : Value) (us : List Value) (Q : VK), Inv X pins σ H s → RelV x v → Vals xs us → r x xs H Q →
    wpAny (model X.prog X.w) X.A (call (.builtin id) (v :: us)) (EP X pins σ Q) X.xe s

/-! ### lists of values -/
theorem Vals.one : ∀ {x : V} {us : List Value}, Vals [x] us → ∃ u, us = [u] ∧ RelV x u
  | _, _, .cons r .nil => ⟨_, rfl, r⟩
theorem Vals.zero : ∀ {us : List Value}, Vals [] us → us = []
  | _, .nil => rfl
theorem Vals.dropLast {xs : List V} {us : List Value} (h : Vals xs us) : Vals xs.dropLast us.dropLast := by
  induction h with
  | nil => exact .nil
  | cons r t ih =>
    cases t with
    | nil => exact .nil
    | cons q t' => exact .cons r ih
theorem Vals.eraseIdx : ∀ {xs : List V} {us : List Value} (i : Nat), Vals xs us → Vals (xs.eraseIdx i) (us.eraseIdx i)
  | _, _, _, .nil => .nil
  | _, _, 0, .cons _ t => t
  | _, _, i + 1, .cons r t => .cons r (Vals.eraseIdx i t)
theorem erase_last {α : Type} (l : List α) : l.eraseIdx (l.length - 1) = l.dropLast := by
  induction l with
  | nil => rfl
  | cons a r ih =>
    cases r with
    | nil => rfl
    | cons b r =>
      have e : (a :: b :: r).length - 1 = ((b :: r).length - 1) + 1 := by
        have h1 : (a :: b :: r).length = r.length + 2 := rfl
        have h2 : (b :: r).length = r.length + 1 := rfl
        omega
      rw [e, List.eraseIdx_cons_succ, ih]
      all_goals rfl
section
variable {X : Cx} {pins : List (Addr × Obj)} {σ : St} {H : Hp} {s : Shared} {l b : Addr} {xs ys zs : List V}

/-! ### the two steps: a tracked list is rewritten, a new list is laid -/
theorem Inv.lset {its its' : List Value} {n : Nat} {f : Array Value → Array Value} {t' : Nat} (I : Inv X pins σ H s) (hH : H l = some (.lst xs))
    (e : s.heap.get? l = some { cls := .type "list", data := .seq its.toArray n }) (hf : f its.toArray = its'.toArray) (hv : Vals ys its') (hz : ys.length ≤ sizeLine) :
    Inv X pins σ (upd H l (.lst ys)) { s with heap := s.heap.update l (Obj.mapSeq f), toks := t' } := by
  have q := PySem.IsL.update e f
  rw [hf] at q
  refine I.write (x := l) (e := l) (by rw [hH]; exact trivial) (.inl rfl) (fun b' u hb hu => (Heap.get?_update_other s.heap (Obj.mapSeq f) (Ne.symm hb)).trans hu) ⟨_, q⟩ ?_
  exact ⟨hz, its', _, hv, q⟩
theorem Inv.lnew {its : List Value} {t' : Nat} (I : Inv X pins σ H s) (hv : Vals ys its) (hz : ys.length ≤ sizeLine) :
    Inv X pins σ (upd H s.heap.objs.size (.lst ys)) { s with heap := s.heap.push { cls := .type "list", data := .seq its.toArray }, toks := t' } :=
  I.laid (fun _ _ q => Heap.get?_push_of_some _ q) (Nat.le_refl _) ⟨hz, its, 0, hv, Heap.get?_push_size _ rfl⟩
theorem Inv.fresh (I : Inv X pins σ H s) : H s.heap.objs.size = none := I.hok.fresh (Nat.le_refl _)
theorem Inv.lstM (I : Inv X pins σ H s) (hH : H l = some (.lst xs)) : xs.length ≤ sizeLine ∧ ∃ (its : List Value) (n : Nat), Vals xs its ∧ xs.length = its.length ∧ s.heap.get? l = some { cls := .type "list", data := .seq its.toArray n } := by
  obtain ⟨z, its, n, r, e⟩ := I.hok l _ hH
  exact ⟨z, its, n, r, r.length, e⟩

theorem notLongL {n : Nat} (h : n ≤ sizeLine) : Builtin.List.listTooLong n = false := by
  unfold Builtin.List.listTooLong
  exact decide_eq_false (by omega)
end

section
variable {X : Cx}

/-! ### methods -/
def rAppend : V → List V → Hp → VK → Prop := fun x vs H Q => ∃ l xs y, x = .ref l ∧ vs = [y] ∧ H l = some (.lst xs) ∧ xs.length < sizeLine ∧ Q .non (upd H l (.lst (xs ++ [y])))
theorem mt_append : MtM X "list.append" rAppend := by
  intro pins s σ H x vs v us Q I rx rv h
  obtain ⟨l, xs, y, rfl, rfl, hH, hz, q⟩ := h
  cases rx
  obtain ⟨u, rfl, ru⟩ := rv.one
  obtain ⟨z, its, n, r, hl, e⟩ := I.lstM hH
  refine call_meets F.slot_list_append ⟨_, e, rfl⟩ F.entry_list_append (F.args_list_append_2 _ _) (PySem.list_append l its.toArray n u (by rw [List.size_toArray]; omega)) ⟨e, ?_⟩
  refine ⟨.non, _, I.lset (its' := its ++ [u]) hH e (by simp) (r.append (.cons ru .nil)) ?_, rfl, q⟩
  rw [List.length_append, List.length_singleton]
  omega

def rExtend : V → List V → Hp → VK → Prop := fun x vs H Q => ∃ l b xs zs, x = .ref l ∧ vs = [.ref b] ∧ H l = some (.lst xs) ∧ H b = some (.lst zs) ∧ xs.length + zs.length ≤ sizeLine ∧ Q .non (upd H l (.lst (xs ++ zs)))
def rPop : V → List V → Hp → VK → Prop := fun x vs H Q => ∃ l xs y, x = .ref l ∧ vs = [] ∧ H l = some (.lst xs) ∧ xs[xs.length - 1]? = some y ∧ Q y (upd H l (.lst xs.dropLast))
theorem mt_pop : MtM X "list.pop" rPop := by
  intro pins s σ H x vs v us Q I rx rv h
  obtain ⟨l, xs, y, rfl, rfl, hH, hy, q⟩ := h
  cases rx
  have hus := rv.zero
  subst hus
  obtain ⟨z, its, n, r, hl, e⟩ := I.lstM hH
  obtain ⟨u, hu, ru⟩ := r.get hy
  have hy' : its.toArray[its.toArray.size - 1]? = some u := by
    show its.toArray[its.length - 1]? = some u
    rw [← Array.getElem?_toList, ← hl]
    exact hu
  refine call_meets F.slot_list_pop ⟨_, e, rfl⟩ F.entry_list_pop (F.args_list_pop_1 _) (MeetsSeq.list_pop_last l its.toArray n u hy' (by rw [List.size_toArray]; omega)) ⟨e, ?_⟩
  refine ⟨y, _, I.lset (its' := its.dropLast) hH e ?_ r.dropLast ?_, ru, q⟩
  · show its.toArray.eraseIdxIfInBounds (its.toArray.size - 1) = its.dropLast.toArray
    rw [List.size_toArray, List.eraseIdxIfInBounds_toArray, erase_last]
  · rw [List.length_dropLast]
    omega

def rPopAt : V → List V → Hp → VK → Prop := fun x vs H Q => ∃ l xs i k y, x = .ref l ∧ vs = [.int i] ∧ H l = some (.lst xs) ∧ -(2 ^ 63) ≤ i ∧ i < 2 ^ 63 ∧ seqIndex? i xs.length = some k ∧ xs[k]? = some y ∧ Q y (upd H l (.lst (xs.eraseIdx k)))
def rReverse : V → List V → Hp → VK → Prop := fun x vs H Q => ∃ l xs, x = .ref l ∧ vs = [] ∧ H l = some (.lst xs) ∧ Q .non (upd H l (.lst xs.reverse))
def rClear : V → List V → Hp → VK → Prop := fun x vs H Q => ∃ l xs, x = .ref l ∧ vs = [] ∧ H l = some (.lst xs) ∧ Q .non (upd H l (.lst []))
/-! ### list + list, list += list, list * int -/
def rCat : R2 := fun x y H Q => ∃ l b xs zs, x = .ref l ∧ y = .ref b ∧ H l = some (.lst xs) ∧ H b = some (.lst zs) ∧ xs.length + zs.length ≤ sizeLine ∧ ∀ p, H p = none → Q (.ref p) (upd H p (.lst (xs ++ zs)))
theorem op_cat : OpR X (binaryOp .Add) rCat := by
  intro pins s σ H x y v u Q I rx ry h
  obtain ⟨l, b, xs, zs, rfl, rfl, hH, hB, hz, q⟩ := h
  cases rx
  cases ry
  obtain ⟨z, its, n, r, hl, e⟩ := I.lstM hH
  obtain ⟨z2, its2, n2, r2, hl2, e2⟩ := I.lstM hB
  refine PySem.P.add_list e e2 ?_ (by rw [List.size_toArray, List.size_toArray]; omega)
  have ea : its.toArray ++ its2.toArray = (its ++ its2).toArray := by simp
  rw [ea]
  exact ⟨.ref _, _, I.lnew (t' := s.toks) (r.append r2) (by rw [List.length_append]; omega), rfl, q _ I.fresh⟩
/-- a list times an int (a negative one is nothing) -/
def rRep : R2 := fun x y H Q => ∃ l k xs, x = .ref l ∧ y = .int k ∧ H l = some (.lst xs) ∧ -(2 ^ 63) ≤ k ∧ k < 2 ^ 63 ∧ xs.length * k.toNat ≤ sizeLine ∧
  ∀ p, H p = none → Q (.ref p) (upd H p (.lst (List.replicate k.toNat xs).flatten))
/-! ### del xs[i] -/
end

/-! ### xs[a:b] = ys -/
section
variable {prog : Program} {w : World} {A : Around} {E : Value → Shared → Prop} {s : Shared}
end

section
variable {X : Cx}
end
end L2

namespace Att
open PySem PySem.W PySem.Calls PyProof.Rows

/-! ### the script -/
theorem ints_of_wellAll {P : Params} {h : Heap} : ∀ (ns : List Int) (vs : List Value), WellAll P h vs (ns.map WData.int) → IntsAre vs ns := by
  intro ns
  induction ns with
  | nil =>
    intro vs w
    rw [List.map_nil] at w
    cases w
    exact .nil
  | cons n ns ih =>
    intro vs w
    rw [List.map_cons] at w
    cases w with
    | cons a b =>
      cases a
      exact .cons _ _ (ih _ b)

theorem script_of {l : OpenLaw} {n : Nat} (hn : l.most = some n) {P : Params} {h : Heap} {args : List WData} {vals : List Value}
    (hpre : l.row.toRowW.claim.pre args = true) (hwl : WellAll P h vals args) :
    ∃ a vs ns, vals = [Value.ref a] ∧ args = [WData.list (ns.map WData.int)] ∧ h.get? a = some { cls := .type "list", data := .seq vs.toArray } ∧ IntsAre vs ns ∧ ns.length ≤ n := by
  have hsh : WShape.hasAll [] args [.list .int] = true := (pre_splitW hpre).1
  have hc : l.pre.holds [] { args := args } = true := (pre_splitW hpre).2
  obtain ⟨d, r, rfl, h1, h2⟩ := hasAllW_cons hsh
  obtain rfl := hasAllW_nil h2
  obtain ⟨xs, rfl, h3⟩ := hasW_list h1
  obtain ⟨ns, rfl⟩ := items_int h3
  have hlen : ns.length ≤ n := by
    unfold OpenLaw.pre at hc
    have h4 : (WTm.not (.lt (.lit (.int (n : Int))) (.len (.arg 0)))).holds [] { args := [.list (ns.map .int)] } = true := by
      have h4 := (holds_andW hc).1
      rw [hn] at h4
      exact h4
    have h5 := condW_of h4 (w_not (w_lt w_lit (w_len_list (w_arg rfl))))
    rw [List.length_map] at h5
    refine Nat.le_of_not_lt fun q => ?_
    have q' : (n : Int) < ((ns.length : Nat) : Int) := by omega
    first
      | (rw [decide_eq_true q'] at h5; exact absurd h5 (by decide))
      | (simp at h5; omega)
  cases hwl with
  | cons w1 w2 =>
    cases w2
    cases w1 with
    | list ho hall => exact ⟨_, _, ns, rfl, rfl, ho, ints_of_wellAll ns _ hall, hlen⟩

theorem post_true (l : OpenLaw) (args : List WData) : l.row.toRowW.claim.post args (.bool true) args = true :=
  postW_of (r := l.row.toRowW) (X := (true == true))
    (show WShape.has [] (.bool true) .bool = true by first | rfl | decide | simp [WShape.has, WShape.arms, WShape.armsAll])
    (show (WTm.eq .res (.lit (.bool true))).value [] { args := args, res := some (.bool true), after := args } = some (.bool (true == true)) from w_eq_bool (w_res rfl) w_lit) rfl

/-! ### the attachment: holds_open's last premise (the goal 'hc' behind k_head) from a wpAny of the law's body -/
/-- the same from a codeAny of the CALL (for a layer whose function contracts speak of calls) -/
theorem attach_call {l : OpenLaw} {n : Nat} {q : Program} {loose : List Str} {XP : (Str → Option Value) → Heap → Prop} {YP : World → Heap → Prop} {d : DefRec}
    (hn : l.most = some n) (hdf : d.params.defaults = [])
    (call : ∀ (w : World) (s₀ s₁ : Shared) (mg mb : Str → Option Value) (fa : Addr) (o : Obj) (pm cd doc : Value) (a : Addr) (vs : List Value) (ns : List Int),
      Ground q loose [] XP w s₀ mg mb s₁.heap → YP w s₁.heap →
      s₁.heap.get? fa = some o → o.data = .func (docDef d.name d.params d.body d.scope pm cd doc) → s₁.heap.CodeRec cd d.name → mg d.name = some (.ref fa) →
      s₁.heap.get? a = some { cls := .type "list", data := .seq vs.toArray } → IntsAre vs ns → ns.length ≤ n → s₁.gens = #[] →
      codeAny (model l.prog w) callerA (.call (.ref fa) ⟨[.ref a], []⟩) (fun r s' => r = .ok (.ret (.bool true)) ∧ OldK s₁.heap s'.heap ∧ s'.os = s₁.os ∧ AllBare s'.gens) s₁) :
    WalkO q loose XP YP l.row.toRowW d [] (fun f vs => PySem.call f vs) := by
  intro w s₀ s₁ mg mb G Y fa o pm cd doc dV kV ho hd hcd hD hmg hg args vals as hpre hlay hrd hwl hlo
  obtain rfl : dV = .none := Dflts.none hD hdf
  obtain rfl : kV = .none := Dflts.noKw hD
  obtain ⟨a, vs, ns, rfl, rfl, hobj, hints, hlen⟩ := script_of hn hpre hwl
  refine enter_call (codeAny_mono (call w s₀ s₁ mg mb fa o pm cd doc a vs ns G Y ho (fd_plain hd) hcd hmg hobj hints hlen hg) fun r s' hq => ?_)
  obtain ⟨rfl, h2, h3, h4⟩ := hq
  exact ⟨.inl ⟨.bool true, .bool true, [], rfl, fun _ => rfl, .bool true, post_true l _, fun _ => ⟨List.Pairwise.nil, fun _ hm => (nomatch hm)⟩⟩, h2, h3, h4⟩

/-! ### rules over ANY heap (no ledger) from facts about the written part K: the library's own take a ledger (News) for what they write -/
section
variable {prog : Program} {w : World} {A : Around} {E : Value → Shared → Prop} {s : Shared} {K : Frag}

/-! the whole heap as the ledger: makes every rule that writes through a ledger a rule over any heap -/
def noObjs (h : Heap) : Heap := { h with objs := #[] }
def ledger (h : Heap) (L d : Addr) : List (Addr × Obj) := (List.range h.objs.size).filterMap fun a => if a = L ∨ a = d then none else (h.get? a).map fun o => (a, o)
end
end Att

namespace L2
open PySem PySem.Spec PyProof.Rows

theorem vals_ints : ∀ {vs : List Value} {ns : List Int}, IntsAre vs ns → Vals (ns.map V.int) vs
  | _, _, .nil => .nil
  | _, _, .cons n t h => .cons ⟨t, rfl⟩ (vals_ints h)

/-- nothing is tracked but the script, known to the object (or it is an object of the module) -/
def Only (H : Hp) : Prop := ∀ b, H b = none ∨ ∃ o xs, H b = some (.frz o (.lst xs))

/-- THE HEAD: the law's promise, at the heap behind the top. F, the promise of the law's def, may use that base is part of the heap (so K.In base, base.Ns mainGlobals mg stand in Mod) -/
theorem law_call {P : Program} {w : World} {K : PySem.W.Frag} {mg mb : Str → Option Value} {CX : CXT} {k : Nat} {fa a : Addr} {fd : FuncData} {x : Str} {sp : Sp} {s₁ : Shared} {vs : List Value} {ns : List Int}
    (KX : K.In s₁.heap) (hns : s₁.heap.Ns mainGlobals mg) (hb : s₁.heap.Ns builtinsNs mb) (hbb : ∀ x : Str, x ≠ "__name__" → mb x = bootBuiltins x) (hlim : s₁.heap.NoLimit) (hg : s₁.gens = #[])
    (ha : s₁.heap.get? a = some { cls := .type "list", data := .seq vs.toArray }) (hi : IntsAre vs ns) (hl : ns.length ≤ sizeLine) (hr : Room k callerA)
    (F : ∀ base : Heap, K.In base → base.Ns mainGlobals mg → FnOk P w K mg base CX k fa fd [x] sp) (hbind : ∀ (s : Shared) (u : Value), BindsTo s fd ⟨[u], []⟩ [(x, u)])
    (hsp : ∀ H : Hp, Only H → SqL K H a (ns.map V.int) → sp [.ref a] H (fun v _ => v = .bl true) fun _ _ _ => False)
    (hCX : ∀ H e s', CX [] H s₁ (fun _ _ _ => False) e s' → False) :
    codeAny (model P w) callerA (.call (.ref fa) ⟨[.ref a], []⟩) (fun r s' => r = .ok (.ret (.bool true)) ∧ OldK s₁.heap s'.heap ∧ s'.os = s₁.os ∧ AllBare s'.gens) s₁ := by
  have rv := vals_ints hi
  have lenV := hi.length
  -- from an abstract heap in which nothing but the script may be tracked
  have core : ∀ H : Hp, Only H → SqL K H a (ns.map V.int) → HOk P w H s₁.heap → (∀ b, H b ≠ none → b = a) → (H a ≠ none → K.lookup a = none) →
      codeAny (model P w) callerA (.call (.ref fa) ⟨[.ref a], []⟩) (fun r s' => r = .ok (.ret (.bool true)) ∧ OldK s₁.heap s'.heap ∧ s'.os = s₁.os ∧ AllBare s'.gens) s₁ := by
    intro H hO hS hok hA hK
    have base_of : ∀ {b : Addr} {o : Obj}, s₁.heap.get? b = some o → H b = none → (hidT s₁.heap H).get? b = some o := fun e n => hidT_get e n
    have noA : ∀ {b : Addr} {o : Obj} {es : Array DictEntry} {ep : Nat}, s₁.heap.get? b = some o → o.data = .dict es ep → H b = none := fun {b o es ep} e d => by
      cases q : H b with
      | none => rfl
      | some u =>
        have e' : b = a := hA b (by rw [q]; simp)
        subst e'
        rw [ha] at e; cases e
        have d' : Data.seq vs.toArray _ = Data.dict es ep := d
        cases d'
    have nsK : ∀ {b : Addr} {m : Str → Option Value}, s₁.heap.Ns b m → (hidT s₁.heap H).Ns b m := fun {b m} ⟨o, es, ep, e, d, r⟩ => ⟨o, es, ep, base_of e (noA e d), d, r⟩
    have hKb : K.In (hidT s₁.heap H) := fun b o e => base_of (KX b o e) (by
      cases q : H b with
      | none => rfl
      | some u =>
        have e' : b = a := hA b (by rw [q]; simp)
        subst e'
        rw [hK (by rw [q]; simp)] at e; cases e)
    have hM : Mod K mg (hidT s₁.heap H) := ⟨hKb, nsK hns, ⟨mb, nsK hb, hbb⟩, let ⟨mc, h1, h2⟩ := hlim; ⟨mc, nsK h1, h2⟩⟩
    have e0 : Env0 P w K mg (hidT s₁.heap H) callerA [] s₁ H := ⟨rfl, hM, fun b o e => of_hidT e, Nat.le_of_eq (hidT_size _ _), trivial, fun b hb => absurd (show b ∈ ([] : List Addr) from hb) (by simp), hok, .of_eq hg⟩
    refine codeAny_mono ((F _ hKb (nsK hns)).run callerA [] s₁ H ⟨[.ref a], []⟩ [.ref a] [.ref a] _ _ hr e0 (hbind s₁ (.ref a)) (.cons rfl .nil) (hsp H hO hS)) fun r s' h => ?_
    cases r with
    | error e => exact (hCX H e s' h).elim
    | ok fl =>
      cases fl with
      | next => exact False.elim h
      | brk => exact False.elim h
      | cont => exact False.elim h
      | ret u =>
        obtain ⟨v, H', os, bare, un, hok', r', q⟩ := h
        have q' : v = .bl true := q
        subst q'
        obtain rfl : u = Value.bool true := r'
        refine ⟨rfl, OldK.of_keep fun b o e => ?_, os, bare⟩
        cases q : H b with
        | none => exact un.keep b o e q (by intro z; exact absurd (show b ∈ ([] : List Addr) from z) (by simp)) (by simp)
        | some u =>
          rcases hO b with z | ⟨ob, xs, z⟩
          · rw [q] at z; cases z
          · have z2 := un.frzs b ob _ z
            obtain ⟨e1, _⟩ := hok b _ z
            obtain ⟨e2, _⟩ := hok' b _ z2
            rw [e] at e1; cases e1
            exact e2
  cases hk : K.lookup a with
  | some o =>
    -- the script is one of the module's own objects
    have e := KX a o hk
    rw [ha] at e
    cases e
    refine core (fun _ => none) (fun _ => .inl rfl) (.inr ⟨_, vs.toArray, _, hk, rfl, rfl, rfl, by rw [List.size_toArray, lenV]; exact hl, by simpa using rv⟩) (fun b u z => by have z' : (none : Option HO) = some u := z; cases z') (fun b z => absurd rfl z) fun z => absurd rfl z
  | none =>
    refine core (fun b => if b = a then some (.frz { cls := .type "list", data := .seq vs.toArray } (.lst (ns.map V.int))) else none) (fun b => ?_) (.inl (.inr ⟨{ cls := .type "list", data := .seq vs.toArray }, if_pos rfl⟩)) (fun b u z => ?_) (fun b z => ?_) fun _ => hk
    · by_cases hb : b = a
      · exact .inr ⟨_, _, if_pos hb⟩
      · exact .inl (if_neg hb)
    · by_cases hb : b = a
      · have z' := (if_pos hb).symm.trans z
        cases z'
        subst hb
        exact ⟨ha, by rw [List.length_map]; exact hl, vs, _, rv, ha⟩
      · have z' := (if_neg hb).symm.trans z
        cases z'
    · by_cases hb : b = a
      · exact hb
      · exact absurd (if_neg hb) z
end L2

namespace L2
open PySem PySem.Spec PyProof.Rows

abbrev KOf {K : PySem.W.Frag} {h : Heap} (_ : K.In h) : PySem.W.Frag := K

/-- the goal that k_head leaves (case hc), from the law's promise. F gives the function object fd (K's own) once, then the promise over every base -/
theorem walk_of {l : PySem.W.OpenLaw} {n k : Nat} {q : Program} {loose : List Str} {XP : (Str → Option Value) → Heap → Prop} {YP : World → Heap → Prop} {d : DefRec} {K : Params → PySem.W.Frag} {CX : World → CXT} {sp : World → Sp} {x : Str}
    (hn : l.most = some n) (hn2 : n ≤ sizeLine) (hdf : d.params.defaults = []) (hr : Room k callerA)
    (hY : ∀ (w : World) (h : Heap), YP w h → (K w.params).In h)
    (F : ∀ (w : World) (mg : Str → Option Value) (fa : Addr) (h : Heap), (K w.params).In h → h.Ns mainGlobals mg → mg d.name = some (.ref fa) →
      ∃ fd : FuncData, (∀ (s : Shared) (u : Value), BindsTo s fd ⟨[u], []⟩ [(x, u)]) ∧
        ∀ base : Heap, (K w.params).In base → base.Ns mainGlobals mg → FnOk l.prog w (K w.params) mg base (CX w) k fa fd [x] (sp w))
    (hsp : ∀ (w : World) (H : Hp) (a : Addr) (ns : List Int), ns.length ≤ n → Only H → SqL (K w.params) H a (ns.map V.int) → sp w [.ref a] H (fun v _ => v = .bl true) fun _ _ _ => False)
    (hCX : ∀ (w : World) (H : Hp) (s : Shared) (e : Value) (s' : Shared), CX w [] H s (fun _ _ _ => False) e s' → False) :
    PySem.W.WalkO q loose XP YP l.row.toRowW d [] (fun f vs => PySem.call f vs) := by
  refine Att.attach_call hn hdf fun w s₀ s₁ mg mb fa o pm cd doc a vs ns G Y ho hd hcd hmg hobj hints hlen hg => ?_
  have KX := hY w _ Y
  obtain ⟨fd, hb, hF⟩ := F w mg fa _ KX G.T.g hmg
  exact law_call KX G.T.g G.T.b G.T.builtins G.T.nolimit hg hobj hints (Nat.le_trans hlen hn2) hr hF hb (fun H hO hS => hsp w H a ns hlen hO hS) fun H e s' => hCX w H s₁ e s'
end L2

/-! SHORT WORDS over the layer: a def of the text, its body, what a loop and a test want. -/
namespace L2
open PySem PySem.Spec PyProof.Rows

/-! ### the text by places -/
/-- the j-th statement of a class's body -/
def inClass (s : Stmt) (j : Nat) : Stmt := match s with
  | .ClassDef _ _ _ body _ _ _ _ _ _ _ => body.getD j (.Pass ⟨0, 0, 0, 0⟩)
  | _ => .Pass ⟨0, 0, 0, 0⟩
def defArgs (s : Stmt) : Arguments := match s with
  | .FunctionDef _ a _ _ _ _ _ _ _ _ => a
  | _ => { posonlyargs := [], args := [], vararg := none, kwonlyargs := [], kw_defaults := [], kwarg := none, defaults := [] }
def defBody (s : Stmt) : List Stmt := match s with
  | .FunctionDef _ _ b _ _ _ _ _ _ _ => b
  | _ => []
def defScope (s : Stmt) : Scope := match s with
  | .FunctionDef _ _ _ _ _ _ sc _ _ _ => sc
  | _ => { kind := .function, names := [], isGenerator := false, isCoroutine := false }

/-! ### no exception leaves a def -/
abbrev CX0 : CXT := fun _ _ _ _ _ _ => False
abbrev E0 : XK := fun _ _ _ => False
theorem pass0 {X : Cx} : Passes CX0 X E0 := fun _ _ _ _ _ _ _ h => h.elim

/-! ### a def (or method) of the text as it stands behind the top -/
structure Fun (K : PySem.W.Frag) (x qual : Str) (st : Stmt) (f : Addr) (fd : FuncData) : Prop where
  ex : ∃ (oc : Value) (od : Option Addr) (kV doc pm : Value) (an : Option Addr) (cdv ct : Value) (osl : Array (Option Value)),
    fd = PySem.W.fnOf x qual (defArgs st) (defBody st) (defScope st) .none kV doc pm an cdv ct ∧ K.lookup f = some ⟨oc, od, .func fd, osl⟩ ∧ PySem.W.codeIn K cdv qual = true
  kp : PySem.W.keepIn K (.ref f) = true
section
variable {P : Program} {w : World} {K : PySem.W.Frag} {mg : Str → Option Value} {base : Heap}
/-- THE RULE for a def: its body as a term of rules, and the reading of that term -/
theorem Fun.ok {x qual : Str} {st : Stmt} {f : Addr} {fd : FuncData} {N ps : List Str} {k : Nat} {sp : Sp} (F : Fun K x qual st f fd) (S : FnScope N ps (defScope st)) (len : ∀ vs H Q E, sp vs H Q E → vs.length = ps.length)
    (hbody : ∀ (cdv : Value) (A : Around) (outer : List Env) (s : Shared) (H : Hp) (vs : List V) (Q : VK) (E : XK), Room k (A.deeper (envOfC qual (defScope st) s.heap.objs.size f cdv)) → sp vs H Q E →
      ∃ t, PSs (cxOf CX0 P w K mg base N qual (defScope st) f cdv A outer s H E).nox (defBody st) t ∧ t { nx := fun _ H' => Q .non H', rt := Q } (start N vs) H) : FnOk P w K mg base CX0 (k + 1) f fd ps sp := by
  obtain ⟨oc, od, kV, doc, pm, an, cdv, ct, osl, rfl, lk, hcd⟩ := F.ex
  refine fn_of lk hcd S len fun A outer s H vs Q E hr hsp => ?_
  obtain ⟨t, h, q⟩ := hbody cdv A outer s H vs Q E hr hsp
  exact ⟨t, h.nox, q⟩
/-- how its arguments bind (no defaults): h is «fun _ _ _ _ _ _ us hl => match us, hl with | [_, _], _ => rfl», one _ a parameter -/
theorem Fun.binds {x qual : Str} {st : Stmt} {f : Addr} {fd : FuncData} {ps : List Str} (F : Fun K x qual st f fd)
    (h : ∀ (kV doc pm : Value) (an : Option Addr) (cdv ct : Value) (us : List Value), us.length = ps.length → bindArgs (PySem.W.fnOf x qual (defArgs st) (defBody st) (defScope st) .none kV doc pm an cdv ct) ⟨us, []⟩ = pure (ps.zip us)) : Binds K fd ps [] := by
  obtain ⟨oc, od, kV, doc, pm, an, cdv, ct, osl, rfl, lk, hcd⟩ := F.ex
  exact .all (h kV doc pm an cdv ct)
theorem fun_mk {x qual : Str} {st : Stmt} {f : Addr} {oc : Value} {od an : Option Addr} {osl : Array (Option Value)} {kV doc pm cdv ct : Value} (l : K.lookup f = some ⟨oc, od, .func (PySem.W.fnOf x qual (defArgs st) (defBody st) (defScope st) .none kV doc pm an cdv ct), osl⟩)
    (c : PySem.W.codeIn K cdv qual = true) (k : PySem.W.keepIn K (.ref f) = true) : Fun K x qual st f (PySem.W.fnOf x qual (defArgs st) (defBody st) (defScope st) .none kV doc pm an cdv ct) := ⟨⟨oc, od, kV, doc, pm, an, cdv, ct, osl, rfl, l, c⟩, k⟩
end
/-! ### expressions in short: the name that stands in the i-th slot -/
section
variable {X : Cx}
end

/-! ### tests -/
/-! ### heaps -/
/-- all that was tracked is as it was -/
def Same (H H' : Hp) : Prop := ∀ b o, H b = some o → H' b = some o
theorem Same.refl (H : Hp) : Same H H := fun _ _ h => h
theorem Same.trans {H H1 H2 : Hp} (a : Same H H1) (b : Same H1 H2) : Same H H2 := fun c o h => b c o (a c o h)
theorem Same.free {H H' : Hp} (e : Same H H') {l : Addr} (h : H' l = Option.none) : H l = Option.none := by
  cases q : H l with
  | none => rfl
  | some o =>
    rw [e l o q] at h
    cases h
theorem Same.seq {K : PySem.W.Frag} {H H' : Hp} {a : Addr} {xs : List V} (e : Same H H') (h : SqL K H a xs) : SqL K H' a xs := by
  rcases h with (h | ⟨o, h⟩) | h
  · exact .inl (.inl (e _ _ h))
  · exact .inl (.inr ⟨o, e _ _ h⟩)
  · exact .inr h

end L2

set_option Elab.async false
set_option linter.all false
set_option maxRecDepth 100000
set_option maxHeartbeats 1000000
namespace L2
open PySem PySem.Spec PyProof.Rows

/-! ### the closure that a comprehension takes along -/
def clOf (cells : List (Str × Addr)) : List (Str × NameKind) → List (Str × Addr) → List (Str × Addr)
  | [], cs => cs
  | (n, .free) :: r, cs => clOf cells r (match cells.lookup n with | some a => (n, a) :: cs | none => cs)
  | (_, _) :: r, cs => clOf cells r cs
theorem clOf_free {cells : List (Str × Addr)} {n : Str} {r : List (Str × NameKind)} {cs : List (Str × Addr)} {a : Addr} (h : cells.lookup n = some a) : clOf cells ((n, .free) :: r) cs = clOf cells r ((n, a) :: cs) := by
  show clOf cells r (match cells.lookup n with | some a => (n, a) :: cs | none => cs) = _
  rw [h]
theorem clOf_other {cells : List (Str × Addr)} {n : Str} {k : NameKind} {r : List (Str × NameKind)} {cs : List (Str × Addr)} (h : k ≠ .free) : clOf cells ((n, k) :: r) cs = clOf cells r cs := by
  cases k <;> first | rfl | exact absurd rfl h
theorem clOf_all {cells : List (Str × Addr)} : ∀ {l : List (Str × NameKind)} {cs : List (Str × Addr)}, (∀ p ∈ cs, cells.lookup p.1 = some p.2) → ∀ p ∈ clOf cells l cs, cells.lookup p.1 = some p.2
  | [], _, h => h
  | (n, k) :: r, cs, h => by
    by_cases hk : k = .free
    · subst hk
      cases e : cells.lookup n with
      | none =>
        have : clOf cells ((n, .free) :: r) cs = clOf cells r cs := by
          show clOf cells r (match cells.lookup n with | some a => (n, a) :: cs | none => cs) = _
          rw [e]
        rw [this]; exact clOf_all h
      | some a =>
        rw [clOf_free e]
        refine clOf_all fun p hp => ?_
        rcases List.mem_cons.mp hp with rfl | hp
        · exact e
        · exact h p hp
    · rw [clOf_other hk]; exact clOf_all h
theorem clOf_keeps {cells : List (Str × Addr)} : ∀ {l : List (Str × NameKind)} {cs : List (Str × Addr)} {p : Str × Addr}, p ∈ cs → p ∈ clOf cells l cs
  | [], _, _, h => h
  | (n, k) :: r, cs, p, h => by
    by_cases hk : k = .free
    · subst hk
      show p ∈ clOf cells r (match cells.lookup n with | some a => (n, a) :: cs | none => cs)
      cases e : cells.lookup n with
      | none => exact clOf_keeps h
      | some a => exact clOf_keeps (List.mem_cons_of_mem _ h)
    · rw [clOf_other hk]; exact clOf_keeps h
theorem clOf_has {cells : List (Str × Addr)} {x : Str} {c : Addr} (hc : cells.lookup x = some c) : ∀ {l : List (Str × NameKind)} {cs : List (Str × Addr)}, (x, NameKind.free) ∈ l → (x, c) ∈ clOf cells l cs
  | (n, k) :: r, cs, h => by
    rcases List.mem_cons.mp h with e | h2
    · cases e
      rw [clOf_free hc]
      exact clOf_keeps List.mem_cons_self
    · by_cases hk : k = .free
      · subst hk
        show (x, c) ∈ clOf cells r (match cells.lookup n with | some a => (n, a) :: cs | none => cs)
        exact clOf_has hc h2
      · rw [clOf_other hk]; exact clOf_has hc h2
theorem lookup_of_mem {α β : Type} [BEq α] [LawfulBEq α] {x : α} {c : β} : ∀ {l : List (α × β)}, (x, c) ∈ l → ∃ d, l.lookup x = some d
  | (n, a) :: r, h => by
    cases e : x == n with
    | true => exact ⟨a, by simp only [List.lookup_cons, e]⟩
    | false =>
      rcases List.mem_cons.mp h with q | q
      · cases q; simp at e
      · obtain ⟨d, hd⟩ := lookup_of_mem q
        exact ⟨d, by simp only [List.lookup_cons, e]; exact hd⟩
theorem cl_sub {cells : List (Str × Addr)} {l : List (Str × NameKind)} {x : Str} {c : Addr} (h : (clOf cells l []).lookup x = some c) : cells.lookup x = some c :=
  clOf_all (l := l) (cs := []) (fun _ hp => absurd hp (by simp)) (x, c) (PySem.mem_of_lookup h)
theorem cl_get {cells : List (Str × Addr)} {l : List (Str × NameKind)} {x : Str} {c : Addr} (hc : cells.lookup x = some c) (h : (x, NameKind.free) ∈ l) : (clOf cells l []).lookup x = some c := by
  obtain ⟨d, hd⟩ := lookup_of_mem (clOf_has (cs := []) hc h)
  rw [hd, ← hc, cl_sub hd]

theorem closureFor_of {scope : Scope} {env : Env} (h : ∀ n, (n, NameKind.free) ∈ scope.names → ∃ c, env.cells.lookup n = some c) : closureFor scope env = pure (clOf env.cells scope.names []) := by
  have go : ∀ (l : List (Str × NameKind)) (cs : List (Str × Addr)), (∀ n, (n, NameKind.free) ∈ l → ∃ c, env.cells.lookup n = some c) →
      (forIn l cs (fun (x : Str × NameKind) (r : List (Str × Addr)) => match x with
        | (name, kind) => if (kind == NameKind.free) = true then (do let c ← cellOf env name; pure (ForInStep.yield ((name, c) :: r))) else (do pure PUnit.unit; pure (ForInStep.yield r))) : Sem (List (Str × Addr))) = pure (clOf env.cells l cs) := by
    intro l
    induction l with
    | nil => intro cs _; rfl
    | cons p r ih =>
      intro cs hl
      obtain ⟨n, k⟩ := p
      have hr := ih
      by_cases hk : k = .free
      · subst hk
        obtain ⟨c, hc⟩ := hl n List.mem_cons_self
        rw [clOf_free hc]
        rw [← ih ((n, c) :: cs) fun m hm => hl m (List.mem_cons_of_mem _ hm)]
        rw [List.forIn_cons]
        simp only [cellOf, hc, beq_self_eq_true, if_true]
        rfl
      · rw [clOf_other hk]
        rw [← ih cs fun m hm => hl m (List.mem_cons_of_mem _ hm)]
        rw [List.forIn_cons]
        have hb : (k == NameKind.free) = false := by simpa using hk
        simp only [hb, Bool.false_eq_true, if_false]
        rfl
  have e := go scope.names [] h
  unfold closureFor
  first
    | exact congrArg (fun m => m >>= pure) e
    | (simp only [bind_pure]; exact e)
    | (rw [show (pure (clOf env.cells scope.names []) : Sem (List (Str × Addr))) = (pure (clOf env.cells scope.names []) >>= pure) from rfl, ← e]; rfl)


/-! ### the block of a comprehension -/
def compCx (X : Cx) (scope : Scope) (N' : List Str) (C : Addr) (s : Shared) (H : Hp) (ex : List Addr) : Cx where
  prog := X.prog
  w := X.w
  K := X.K
  mg := X.mg
  base := X.base
  A := X.A
  N := N'
  s₀ := s
  H₀ := H
  env := compEnvC scope (clOf X.env.cells scope.names []) C X.env
  outer := X.stack
  stack := X.stack
  ex := ex
  fn := fun _ => false
  calm := X.calm
  pn := []
  xe := fun _ _ => False

/-- what of the text a comprehension's scope must have; pk: where each name of N' stands among the names around it (none: its own) -/
structure CompScope (X : Cx) (scope : Scope) (N' : List Str) (pk : List (Option Nat)) : Prop where
  kind : scope.kind = .function
  nocell : ∀ y ∈ scope.names, y.2 ≠ .cell
  loc : ∀ y ∈ scope.names, y.2 = .local → scope.names.lookup y.1 = some .local
  free : ∀ n, (n, NameKind.free) ∈ scope.names → X.env.kindOf n = some .cell ∨ X.env.kindOf n = some .free
  nofl : ∀ n, (n, NameKind.free) ∈ scope.names → scope.names.lookup n ≠ some .local
  pl : pk.length = N'.length
  pn : ∀ (j i : Nat) (x : Str), pk[j]? = some (some i) → N'[j]? = some x → X.N[i]? = some x ∧ (x, NameKind.free) ∈ scope.names

/-- the names' values at a turn's begin -/
def pick (pk : List (Option Nat)) (σ : St) : St := pk.map fun o => o.bind fun i => (σ[i]?).join

theorem mem_of_relabel {scope : Scope} {env : Env} {x : Str} (hn : ∀ y ∈ scope.names, y.2 ≠ .cell) (h : (relabel scope env).names.lookup x = some .cell ∨ (relabel scope env).names.lookup x = some .free) : (x, NameKind.free) ∈ scope.names := by
  have go : ∀ k, (relabel scope env).names.lookup x = some k → (k = .cell ∨ k = .free) → (x, NameKind.free) ∈ scope.names := fun k e hk => by
    have m := PySem.mem_of_lookup e
    obtain ⟨p, hp, e2⟩ := List.mem_map.mp m
    obtain ⟨n, k'⟩ := p
    dsimp only at e2
    by_cases hc : (k' == NameKind.free && env.scope.kind == .function && env.kindOf n == some .cell) = true
    · rw [if_pos hc] at e2
      have hk' : k' = .free := by
        simp only [Bool.and_eq_true] at hc
        simpa using hc.1.1
      have en : n = x := (Prod.mk.inj e2).1
      rw [← en, ← hk']; exact hp
    · rw [if_neg hc] at e2
      have en : n = x := (Prod.mk.inj e2).1
      have ek : k' = k := (Prod.mk.inj e2).2
      rcases hk with hk | hk
      · exact absurd (ek.trans hk) (hn _ hp)
      · rw [← en, ← hk, ← ek]; exact hp
  rcases h with h | h
  · exact go _ h (.inl rfl)
  · exact go _ h (.inr rfl)

section
variable {X : Cx} {pins : List (Addr × Obj)} {σ : St} {H : Hp} {s : Shared} {scope : Scope} {N' : List Str} {pk : List (Option Nat)} {fp : List Addr}

theorem comp_ok (I : Inv X pins σ H s) (S : CompScope X scope N' pk) {C : Addr} (hC : s.heap.objs.size ≤ C) (hf : ∀ b ∈ fp, FpOk X pins H b) (hfs : ∀ b ∈ fp, b < s.heap.objs.size) : (compCx X scope N' C s H fp).Ok where
  mod := I.ok.mod
  kind := S.kind
  glob := I.ok.glob
  blt := I.ok.blt
  above := hC
  inj := fun x y c h1 h2 => I.ok.inj x y c (cl_sub h1) (cl_sub h2)
  has := fun x h => by
    have m : (x, NameKind.free) ∈ scope.names := mem_of_relabel S.nocell h
    obtain ⟨c, hc⟩ := I.ok.has x (S.free x m)
    exact ⟨c, cl_get hc m⟩
  cab := fun x c h _ => nomatch h
  hd := I.ok.hd
  frames := I.ok.frames
  stk := .inl rfl
  exf := fun b hb => ⟨Nat.ne_of_lt (Nat.lt_of_lt_of_le (hfs b hb) hC), fun x c e => (hf b hb).2.2.2.2.1 x c (cl_sub e)⟩
  bs := I.bs
  bsz := Nat.le_trans I.ok.bsz I.sz
  noex := fun b o e hb => by
    rcases (hf b hb).2.2.2.1 with z | z
    · exact I.ok.noex b o e z
    · exact absurd (Nat.lt_of_lt_of_le (Heap.lt_size e) (Nat.le_trans I.ok.bsz z)) (Nat.lt_irrefl _)
  exfs := fun b hb z => by
    rcases List.mem_cons.mp (I.stkSub b z) with e | e
    · exact (hf b hb).2.1 e
    · exact (hf b hb).2.2.1 e
  funs := I.stack
  frf := I.stkFree

theorem pick_get {pk : List (Option Nat)} {σ : St} {j : Nat} {v : V} (h : (pick pk σ)[j]? = some (some v)) : ∃ i, pk[j]? = some (some i) ∧ σ[i]? = some (some v) := by
  unfold pick at h
  rw [List.getElem?_map] at h
  cases e : pk[j]? with
  | none => rw [e] at h; cases h
  | some o =>
    rw [e] at h
    cases o with
    | none => cases h
    | some i =>
      refine ⟨i, rfl, ?_⟩
      have h' : (σ[i]?).join = some v := Option.some.inj h
      cases q : σ[i]? with
      | none => rw [q] at h'; cases h'
      | some z => rw [q] at h'; rw [show z = some v from h']

theorem comp_inv {s4 : Shared} {C D : Addr} {od : Obj} (I : Inv X pins σ H s) (S : CompScope X scope N' pk) (hC : s.heap.objs.size ≤ C) (hf : ∀ b ∈ fp, FpOk X pins H b) (hfs : ∀ b ∈ fp, b < s.heap.objs.size)
    (hos : s4.os = s.os) (hg : s4.gens = s.gens) (old : ∀ b o, s.heap.get? b = some o → s4.heap.get? b = some o) (hns : s4.heap.Ns C fun _ => none) (hD : s.heap.objs.size ≤ D) (hDC : D ≠ C) (hDo : s4.heap.get? D = some od) (hDd : ∀ v, od.data ≠ .cell v) :
    Inv (compCx X scope N' C s H fp) [(D, od)] (pick pk σ) H s4 where
  ok := comp_ok I S hC hf hfs
  os := hos
  bare := by rw [hg]; exact I.bare
  base := Un.kept old
  loc := ⟨_, hns, fun j x v h1 h2 h3 => by
    obtain ⟨i, e1, e2⟩ := pick_get h2
    obtain ⟨hN, hm⟩ := S.pn j i x e1 h1
    obtain ⟨m, hn, hl⟩ := I.loc
    have hk := S.free x hm
    obtain ⟨c, hc⟩ := I.ok.has x hk
    have hv : Vis X.env.scope x := by
      rcases hk with k | k
      · exact .inr (.inl k)
      · exact .inr (.inr k)
    obtain ⟨u, r, l⟩ := hl i x v hN e2 hv
    refine ⟨u, r, .inr ⟨?_, c, cl_get hc hm, ?_⟩⟩
    · rcases h3 with h3 | h3 | h3
      · exfalso
        -- a name cannot be local and free
        have h3' : (relabel scope X.env).names.lookup x = some .local := h3
        obtain ⟨p, hp, e⟩ := List.mem_map.mp (PySem.mem_of_lookup h3')
        obtain ⟨n, k'⟩ := p
        dsimp only at e
        by_cases hcnd : (k' == NameKind.free && X.env.scope.kind == .function && X.env.kindOf n == some .cell) = true
        · rw [if_pos hcnd] at e; exact nomatch (Prod.mk.inj e).2
        · rw [if_neg hcnd] at e
          have en : n = x := (Prod.mk.inj e).1
          have ek : k' = .local := (Prod.mk.inj e).2
          have q := S.loc _ hp ek
          have q2 : (relabel scope X.env).names.lookup x = some .local := h3'
          -- (x, free) is in the list too, but the kind at x is found by lookup: free would be found by a cell
          exact S.nofl x hm (by rw [← en]; exact q)
      · exact .inl h3
      · exact .inr h3
    · rcases l with ⟨k, _⟩ | ⟨_, c', e, z⟩
      · rcases hk with k' | k' <;> (rw [k'] at k; cases k)
      · rw [hc] at e; cases e
        obtain ⟨o, ho, hd⟩ := z
        exact ⟨o, old _ _ ho, hd⟩⟩
  cell := fun x c h => by
    obtain ⟨v, o, ho, hd⟩ := I.cell x c (cl_sub h)
    exact ⟨v, o, old _ _ ho, hd⟩
  free := I.hok.fresh hC
  freeC := fun x c h => I.freeC x c (cl_sub h)
  pin := fun p hp => by
    have e : p = (D, od) := by simpa using (show p ∈ ([] : List (Addr × Obj)) ++ [(D, od)] from hp)
    subst e
    refine ⟨hDo, I.hok.fresh hD, hDC, fun z => ?_, hDd⟩
    obtain ⟨_, o, ho, _⟩ := I.stack.mem z
    exact absurd (Nat.lt_of_lt_of_le (Heap.lt_size ho) hD) (Nat.lt_irrefl _)
  hok := I.hok.kept old
  len := by unfold pick; rw [List.length_map]; exact S.pl
end
end L2

set_option Elab.async false
set_option linter.all false
set_option maxRecDepth 100000
set_option maxHeartbeats 1000000
namespace L2
open PySem PySem.Spec PyProof.Rows

theorem append_raw {prog : Program} {w : World} {A : Around} {E : Value → Shared → Prop} {s : Shared} {l : Addr} {its : Array Value} {n : Nat} {x : Value} {Q : Value → Shared → Prop}
    (e : s.heap.get? l = some { cls := .type "list", data := .seq its n }) (hsz : its.size ≤ sizeLine)
    (hQ : ∀ h' n', h'.get? l = some { cls := .type "list", data := .seq (its.push x) n' } → Heap.SameBut l s.heap h' → Q .none { s with heap := h' }) :
    wpAny (model prog w) A (call (.builtin "list.append") [.ref l, x]) Q E s := by
  have hl : s.heap.IsList l its := PySem.IsL.isList e
  refine wpAny_call_entry slot_list_append hl.typeIs entry_list_append ?_ (args_list_append _ _)
  show wpAny _ _ (updateSeq l (·.push x) >>= fun _ => ret .none) _ _ s
  refine wpAny_bind ?_
  have q : (s.heap.update l (Obj.mapSeq (·.push x))).get? l = some (Obj.mapSeq (·.push x) { cls := .type "list", data := .seq its n }) := Heap.get?_update_self _ e rfl
  exact wpAny_updateSeq e rfl (wpAny_pure ⟨.none, rfl, hQ _ _ q (Heap.SameBut.update ..)⟩)

section
variable {X : Cx} {pins : List (Addr × Obj)} {σ : St} {H H' : Hp} {s s' : Shared} {scope : Scope} {N' : List Str} {pk : List (Option Nat)} {fp : List Addr}

/-- an object that stands untracked is tracked from here on -/
theorem HOk.track {P : Program} {w : World} {H : Hp} {h : Heap} {a : Addr} {o : HO} (x : HOk P w H h) (hn : H a = none) (new : ObjOk P w (upd H a o) h a o) : HOk P w (upd H a o) h := fun b u e => by
  by_cases hb : b = a
  · subst hb; rw [upd_same] at e; cases e; exact new
  · rw [upd_ne hb] at e
    exact (x b u e).stay (fun c v _ q => q) (fun c q => by rw [upd_ne (ne_of_none q hn)]; exact q) fun c xs q => by rw [upd_ne (ne_of_none q hn)]; exact q
theorem HOk.but {P : Program} {w : World} {H : Hp} {h h' : Heap} {a : Addr} (x : HOk P w H h) (hn : H a = none) (k : ∀ b o, b ≠ a → h.get? b = some o → h'.get? b = some o) : HOk P w H h' := fun b u e =>
  (x b u e).stay (fun c v hc q => k c v (by
    rcases hc with rfl | hc
    · exact fun z => by rw [z, hn] at e; cases e
    · exact ne_of_none hc hn) q) (fun _ q => q) fun _ _ q => q

/-- behind a comprehension: the list is tracked, the block's own names are gone -/
theorem comp_out {C D : Addr} {h' : Heap} {ys : List V} {its : List Value} {n : Nat} {σ' : St} {pins' : List (Addr × Obj)} (I : Inv X pins σ H s) (hf : ∀ b ∈ fp, FpOk X pins H b)
    (J : Inv (compCx X scope N' C s H fp) pins' σ' H' s') (hC : s.heap.objs.size ≤ C) (hD : s.heap.objs.size ≤ D) (hDC : D ≠ C) (hDn : H' D = none) (e : s'.heap.get? D = some { cls := .type "list", data := .seq its.toArray n }) (r : Vals ys its)
    (hz : ys.length ≤ sizeLine) (sb : Heap.SameBut C s'.heap h') : Inv X pins σ (upd H' D (.lst ys)) { s' with heap := h' } := by
  have u : Un (frs X.stack) fp H H' s.heap s'.heap := J.base
  have keep : ∀ b o, b ≠ C → s'.heap.get? b = some o → h'.get? b = some o := fun b o hb q => (sb.2 b hb).trans q
  have old : ∀ b o, s.heap.get? b = some o → b ≠ C ∧ b ≠ D := fun b o q => ⟨Nat.ne_of_lt (Nat.lt_of_lt_of_le (Heap.lt_size q) hC), Nat.ne_of_lt (Nat.lt_of_lt_of_le (Heap.lt_size q) hD)⟩
  have hCn : H' C = none := J.free
  have hok : HOk X.prog X.w (upd H' D (.lst ys)) h' := by
    refine HOk.but (a := C) (HOk.track (h := s'.heap) J.hok hDn ⟨hz, its, n, r, e⟩) ?_ keep
    rw [upd_ne (Ne.symm hDC)]; exact hCn
  refine I.call' (s' := { s' with heap := h' }) (ch := fp) J.os ?_ hok J.bare fun b hb => ⟨(hf b hb).2.2.2.1, (hf b hb).2.1, (hf b hb).2.2.2.2.1, (hf b hb).2.2.2.2.2⟩
  refine ⟨fun b o q n hb hx => ?_, fun b o q n hb hx => ?_, fun b o q n hx => ?_, fun b o q hx => ?_, fun b xs q => ?_, fun b o xs q => ?_, fun b ps q => ?_⟩
  · exact keep b o (old b o q).1 (u.keep b o q n hb hx)
  · obtain ⟨sl, z⟩ := u.slot b o q n hb hx
    exact ⟨sl, keep b _ (old b o q).1 z⟩
  · rw [upd_ne (old b o q).2]; exact u.free b o q n hx
  · obtain ⟨o', z⟩ := u.there b o q hx
    exact ⟨o', keep b o' (old b o q).1 z⟩
  · have z := u.tups b xs q
    rw [upd_ne (ne_of_none z hDn)]; exact z
  · have z := u.frzs b o xs q
    rw [upd_ne (ne_of_none z hDn)]; exact z
  · obtain ⟨m, z⟩ := u.tbls b ps q
    exact ⟨m, by rw [upd_ne (ne_of_none z hDn)]; exact z⟩
end

/-! ### the rule -/
/-- the tests of a comprehension's one clause -/
def PTs (X : Cx) (es : List Expr) (t : TT) : Prop :=
  ∀ (pins : List (Addr × Obj)) (s : Shared) (σ : St) (H : Hp) (Q : Bool → Hp → Prop), Inv X pins σ H s → t σ H Q →
    wpAny (model X.prog X.w) X.A (forIn es true fun c r => if r = true then do let ok ← isTrue c X.env (eval c X.env); pure (ForInStep.yield ok) else pure (ForInStep.yield r)) (TP X pins σ Q) X.xe s
def tYes : TT := fun _ H Q => Q true H
theorem pts_nil {X : Cx} : PTs X [] tYes := fun pins s σ H Q I h => wpAny_tests_nil ⟨H, I, h⟩
theorem pts_one {X : Cx} {c : Expr} {t : TT} (h : PT X c t) : PTs X [c] t := fun pins s σ H Q I hq => wpAny_tests_one (h pins s σ H Q I hq)

/-- the values that stood at a turn's begin stand still -/
def Sup (σ σ' : St) : Prop := σ'.length = σ.length ∧ ∀ (i : Nat) v, σ[i]? = some (some v) → σ'[i]? = some (some v)

/-- W: what holds by the turn, a measure, the list so far -/
def tComp (pk : List (Option Nat)) (wi : TI) (g : TG) (tt : TT) (te : TE) : TE := fun σ H Q => wi σ H fun J H1 => ∃ W : Nat → Nat → List V → Hp → Prop, (∃ m, W 0 m [] H1) ∧ ∀ i m ys H, W i m ys H →
  (J.stop i H ∧ ys.length ≤ sizeLine ∧ ∀ p, H p = none → Q (.ref p) (upd H p (.lst ys))) ∨
  (J.go i H ∧ ys.length < sizeLine ∧ ∃ N : List V → Hp → Prop, (∀ zs H', N zs H' → ∃ m', m' < m ∧ W (i + 1) m' zs H') ∧ ∀ x H', J.yld i H x H' → g x (pick pk σ) H' fun σ2 H2 => Sup (pick pk σ) σ2 ∧ tt σ2 H2 fun b H3 =>
    if b = true then te σ2 H3 fun v H4 => N (ys ++ [v]) H4 else N ys H3)

/-- as Turn, in one place (calm or not) -/
structure TurnA (P : Program) (w : World) (K : PySem.W.Frag) (A₀ : Around) (c : Bool) (tg : Expr) (J : It) (fp : List Addr) (it : Addr) (tn : Nat → Heap → Prop) : Prop where
  mem : it ∈ fp
  obj : ∀ i h, tn i h → ∀ b ∈ fp, ∃ o, h.get? b = some o ∧ ∀ v, o.data ≠ .cell v
  keep : ∀ i h h', tn i h → (∀ b ∈ fp, ∀ o, h.get? b = some o → h'.get? b = some o) → tn i h'
  item : ∀ (X : Cx), X.prog = P → X.w = w → X.K = K → X.A = A₀ → X.calm = c → ∀ (i : Nat) (pins : List (Addr × Obj)) (s : Shared) (σ : St) (H : Hp) (E : Value → Shared → Prop), Inv X pins σ H s → (∀ b ∈ fp, FpOk X pins H b) → tn i s.heap → J.go i H →
    wpAny (model P w) X.A (pyNext (.ref it)) (fun r s1 => ∃ u, r = some u ∧
      wpAny (model P w) X.A (letOwnedTupleGo tg (.ref it) u) (fun _ s2 => ∃ x H', Inv X pins σ H' s2 ∧ RelV x u ∧ J.yld i H x H' ∧ tn (i + 1) s2.heap ∧ ∀ b ∈ fp, H' b = none) E s1) E s
  done : ∀ (X : Cx), X.prog = P → X.w = w → X.K = K → X.A = A₀ → X.calm = c → ∀ (i : Nat) (pins : List (Addr × Obj)) (s : Shared) (σ : St) (H : Hp) (E : Value → Shared → Prop), Inv X pins σ H s → (∀ b ∈ fp, FpOk X pins H b) → tn i s.heap → J.stop i H →
    wpAny (model P w) X.A (pyNext (.ref it)) (fun r s1 => r = none ∧ Inv X pins σ H s1) E s
  self : ∀ (A : Around) (i : Nat) (s : Shared) (Q : Value → Shared → Prop) (E : Value → Shared → Prop), tn i s.heap → Q (.ref it) s → wpAny (model P w) A (pyIter (.ref it)) Q E s
theorem Turn.toA {P : Program} {w : World} {K : PySem.W.Frag} {A₀ : Around} {c : Bool} {tg : Expr} {J : It} {fp : List Addr} {it : Addr} {tn : Nat → Heap → Prop} (T : Turn P w K tg J fp it tn) (hc : c = true) : TurnA P w K A₀ c tg J fp it tn :=
  ⟨T.mem, T.obj, T.keep, fun X h1 h2 h3 _ h5 => T.item X h1 h2 h3 (h5.trans hc), fun X h1 h2 h3 _ h5 => T.done X h1 h2 h3 (h5.trans hc), T.self⟩
/-- an iterator has come, wherever one is -/
def PIAE (X : Cx) (pins : List (Addr × Obj)) (σ : St) (tg : Expr) (R : It → Hp → Prop) (itv : Value) (s2 : Shared) : Prop :=
  ∃ (it : Addr) (fp : List Addr) (tn : Nat → Heap → Prop) (J : It) (H' : Hp), itv = .ref it ∧ Inv X pins σ H' s2 ∧ TurnA X.prog X.w X.K X.A X.calm tg J fp it tn ∧ tn 0 s2.heap ∧ (∀ b ∈ fp, FpOk X pins H' b) ∧ R J H'
def PIA (X : Cx) (tg iter : Expr) (t : TI) : Prop :=
  ∀ (pins : List (Addr × Obj)) (s : Shared) (σ : St) (H : Hp) (R : It → Hp → Prop), Inv X pins σ H s → t σ H R →
    wpAny (model X.prog X.w) X.A (eval iter X.env) (fun v s1 => wpAny (model X.prog X.w) X.A (pyIter v) (PIAE X pins σ tg R) X.xe s1) X.xe s
theorem PI.toA {X : Cx} {tg iter : Expr} {t : TI} (h : PI X tg iter t) (hc : X.calm = true) : PIA X tg iter t := fun pins s σ H R I q =>
  thn (h pins s σ H R I q) fun v s1 h1 => thn h1 fun itv s2 ⟨it, fp, tn, J, H2, e, I2, T, r⟩ => ⟨it, fp, tn, J, H2, e, I2, T.toA hc, r⟩

set_option maxHeartbeats 4000000 in
theorem comp_block {X : Cx} {pins : List (Addr × Obj)} {σ : St} {H : Hp} {s2 : Shared} {scope : Scope} {N' : List Str} {pk : List (Option Nat)} {fp : List Addr} {tg elt iter : Expr} {ifs : List Expr} {pos : Pos} {g : TG} {tt : TT} {te : TE}
    {J : It} {it : Addr} {tn : Nat → Heap → Prop} {R : Value → Addr → Result → Shared → Prop} {E : Value → Shared → Prop} {Q : VK}
    (S : CompScope X scope N' pk) (hg : ∀ C s H ex, PG (compCx X scope N' C s H ex) tg g) (ht : ∀ C s H ex, PTs (compCx X scope N' C s H ex) ifs tt) (he : ∀ C s H ex, PE (compCx X scope N' C s H ex) elt te)
    (I : Inv X pins σ H s2) (T : TurnA X.prog X.w X.K X.A X.calm tg J fp it tn) (st : tn 0 s2.heap) (hf : ∀ b ∈ fp, FpOk X pins H b)
    (hW : ∃ W : Nat → Nat → List V → Hp → Prop, (∃ m, W 0 m [] H) ∧ ∀ i m ys H, W i m ys H →
      (J.stop i H ∧ ys.length ≤ sizeLine ∧ ∀ p, H p = none → Q (.ref p) (upd H p (.lst ys))) ∨
      (J.go i H ∧ ys.length < sizeLine ∧ ∃ N : List V → Hp → Prop, (∀ zs H', N zs H' → ∃ m', m' < m ∧ W (i + 1) m' zs H') ∧ ∀ x H', J.yld i H x H' → g x (pick pk σ) H' fun σ2 H2 => Sup (pick pk σ) σ2 ∧ tt σ2 H2 fun b H3 =>
        if b = true then te σ2 H3 fun v H4 => N (ys ++ [v]) H4 else N ys H3))
    (hR : ∀ (C D : Addr) (s' : Shared) (ys : List V) (H' : Hp), (∃ m, s'.heap.Ns C m) → Q (.ref D) (upd H' D (.lst ys)) → (∀ h', Heap.SameBut C s'.heap h' → Inv X pins σ (upd H' D (.lst ys)) { s' with heap := h' }) → s2.heap.objs.size ≤ C → upd H' D (.lst ys) C = none →
      R (.ref D) C (.ok .next) s') :
    wpAny (model X.prog X.w) X.A (newList []) (fun acc s₃ => wpAny (model X.prog X.w) X.A (newFunctionEnv scope X.env.globals (clOf X.env.cells scope.names []) [] X.env.qual none .none (some X.env)) (fun cenv s₄ =>
      codeAny (model X.prog X.w) X.A (.compStart (.ListComp elt [⟨tg, iter, ifs, 0⟩] scope pos) 0 (.ref it) acc { cenv with scope := relabel scope X.env }) (R acc cenv.locals) s₄) E s₃) E s2 := by
  obtain ⟨W, ⟨m0, w0⟩, turn⟩ := hW
  refine wpAny_newObj_type (wpAny_newFunctionEnv S.nocell (by intro y hy; simp at hy) (fun h₁ hns₁ hsb₁ => ?_) S.kind)
  dsimp only at hns₁ hsb₁ ⊢
  generalize hH2 : s2.heap.push { cls := .type "list", dict := none, data := .seq ([] : List Value).toArray } = H2 at hns₁ hsb₁ ⊢
  have hC : H2.objs.size = s2.heap.objs.size + 1 := by rw [← hH2, Heap.size_push]
  have hDC : s2.heap.objs.size ≠ H2.objs.size := by rw [hC]; exact Nat.ne_of_lt (Nat.lt_succ_self _)
  have hCle : s2.heap.objs.size ≤ H2.objs.size := by rw [hC]; exact Nat.le_succ _
  have old : ∀ b o, s2.heap.get? b = some o → h₁.get? b = some o := fun b o e =>
    hsb₁.extBut b o (Nat.ne_of_lt (Nat.lt_of_lt_of_le (Heap.lt_size e) hCle)) (Heap.get?_push_of_some _ (hH2 ▸ Heap.get?_push_of_some _ e))
  have hacc : h₁.get? s2.heap.objs.size = some { cls := .type "list", data := .seq ([] : List Value).toArray } :=
    hsb₁.extBut _ _ hDC (Heap.get?_push_of_some _ (hH2 ▸ Heap.get?_push_size _ rfl))
  have hfs : ∀ b ∈ fp, b < s2.heap.objs.size := fun b hb => by
    obtain ⟨o, e, _⟩ := T.obj 0 _ st b hb
    exact Heap.lt_size e
  have st1 : tn 0 h₁ := T.keep 0 _ _ st fun b _ o e => old b o e
  have hLC : X.env.locals ≠ H2.objs.size := Nat.ne_of_lt (Nat.lt_of_lt_of_le I.lt hCle)
  generalize hCe : H2.objs.size = C at *
  generalize hDe : s2.heap.objs.size = D at *
  have hDle : s2.heap.objs.size ≤ D := by rw [hDe]; exact Nat.le_refl _
  have hCle' : s2.heap.objs.size ≤ C := by rw [hDe]; exact hCle
  have loop : ∀ s₃ : Shared, s₃ = { s2 with heap := h₁, toks := s2.toks + ([] : List (Str × Value)).length } →
      codeAny (model X.prog X.w) X.A (.compLoop (.ListComp elt [⟨tg, iter, ifs, 0⟩] scope pos) 0 (.ref it) (.ref D) (compEnvC scope (clOf X.env.cells scope.names []) C X.env)) (R (.ref D) C) s₃ := by
    rintro s₃ rfl
    refine codeAny_loop rfl (fun n s' => ∃ i H' ys its k, Inv (compCx X scope N' C s2 H fp) [(D, { cls := .type "list", data := .seq its k })] (pick pk σ) H' s' ∧ Vals ys its.toList ∧ tn i s'.heap ∧ (∀ b ∈ fp, H' b = none) ∧ W i n ys H') ?_ m0
      ⟨0, H, [], #[], 0, comp_inv I S hCle' hf (fun b hb => by rw [hDe]; exact hfs b hb) rfl rfl old (by simpa using hns₁) hDle hDC hacc (fun v z => nomatch z), .nil, st1, fun b hb => (hf b hb).1, w0⟩
    rintro n s3 ⟨i, H3, ys, its, k, I3, rv3, st3, fr3, w3⟩
    show wpAny _ _ ((compTurn (.ListComp elt [⟨tg, iter, ifs, 0⟩] scope pos) 0 (.ref it) (.ref D) (compEnvC scope (clOf X.env.cells scope.names []) C X.env)).onRaise (fun x => do noteFrame x (compEnvC scope (clOf X.env.cells scope.names []) C X.env); theTreesLotGoes x)) _ _ s3
    refine wpAny_noted ?_
    rw [compTurn_list]
    -- an exception never leaves the block
    have never : ∀ {α : Type} {t : Sem α} {Q' : α → Shared → Prop} {E' : Value → Shared → Prop} {s' : Shared}, wpAny (model X.prog X.w) X.A t Q' (fun _ _ => False) s' → wpAny (model X.prog X.w) X.A t Q' E' s' := fun h => wpAny_mono h (fun _ _ x => x) fun _ _ x => x.elim
    have fpY : ∀ {H' : Hp} {pins'}, (∀ b ∈ fp, H' b = none) → (∀ p ∈ pins', p.1 = D) → ∀ b ∈ fp, FpOk (compCx X scope N' C s2 H fp) pins' H' b := fun {H' pins'} hn hp b hb =>
      ⟨hn b hb, (I3.ok.exf b hb).1, I3.ok.exfs b hb, .inl hb, (I3.ok.exf b hb).2, fun p hp' z => by
        have hp2 : p ∈ pins' := by simpa using (show p ∈ ([] : List (Addr × Obj)) ++ pins' from hp')
        have q := hfs b hb
        rw [← z, hp p hp2] at q
        exact Nat.lt_irrefl _ q⟩
    have onlyD : ∀ p ∈ [(D, ({ cls := .type "list", data := .seq its k } : Obj))], p.1 = D := fun p hp => by
      have e : p = (D, ({ cls := .type "list", data := .seq its k } : Obj)) := by simpa using hp
      rw [e]
    have accAt : ∀ {pins' : List (Addr × Obj)} {σ' H' s'}, Inv (compCx X scope N' C s2 H fp) pins' σ' H' s' → (D, ({ cls := .type "list", data := .seq its k } : Obj)) ∈ pins' → s'.heap.get? D = some { cls := .type "list", data := .seq its k } ∧ H' D = none := fun {pins' σ' H' s'} J hm => by
      obtain ⟨a1, a2, _⟩ := J.pin _ (show (D, ({ cls := .type "list", data := .seq its k } : Obj)) ∈ ([] : List (Addr × Obj)) ++ pins' by simpa using hm)
      exact ⟨a1, a2⟩
    refine wpAny_bind (wpAny_standAt (wpAny_bind ?_))
    rcases turn i n ys H3 w3 with ⟨stop, hz, qn⟩ | ⟨go, hz, N, hN, step⟩
    · refine never (thn (T.done (compCx X scope N' C s2 H fp) rfl rfl rfl rfl rfl i _ s3 _ H3 (fun _ _ => False) I3 (fpY fr3 onlyD) st3 stop) fun r s4 ⟨hr, I4⟩ => ?_)
      subst hr
      refine wpAny_pure ?_
      obtain ⟨a1, a2⟩ := accAt I4 (by simp)
      obtain ⟨mC, hnC, _⟩ := I4.loc
      exact hR C D s4 ys H3 ⟨mC, hnC⟩ (qn D a2) (fun h' sb => comp_out I hf I4 hCle' hDle hDC a2 (its := its.toList) (n := k) (by simpa using a1) rv3 hz sb) hCle (by rw [upd_ne (Ne.symm hDC)]; exact I4.free)
    · refine never (thn (T.item (compCx X scope N' C s2 H fp) rfl rfl rfl rfl rfl i _ s3 _ H3 (fun _ _ => False) I3 (fpY fr3 onlyD) st3 go) fun r s4 ⟨u, hr, h4⟩ => ?_)
      subst hr
      refine wpAny_bind (never (thn h4 fun _ s5 ⟨x, H5, I5, r5, y5, st5, fr5⟩ => ?_))
      have I5' := I5.pinned (fpY fr5 onlyD) (T.obj _ _ st5)
      refine wpAny_bind (never (thn (hg C s2 H fp _ s5 _ H5 x u _ I5' r5 (step x H5 y5)) fun _ s6 ⟨σ6, H6, I6, sup, q6⟩ => ?_))
      refine wpAny_bind (never (thn (ht C s2 H fp _ s6 σ6 H6 _ I6 q6) fun b s7 ⟨H7, I7, q7⟩ => ?_))
      have back : ∀ {H' : Hp} {s' : Shared}, Inv (compCx X scope N' C s2 H fp) ([(D, { cls := .type "list", data := .seq its k })] ++ pinsAt fp s5.heap) σ6 H' s' →
          Inv (compCx X scope N' C s2 H fp) [(D, { cls := .type "list", data := .seq its k })] (pick pk σ) H' s' ∧ tn (i + 1) s'.heap ∧ ∀ b ∈ fp, H' b = none := fun {H' s'} I7 => by
        refine ⟨I7.unpinned.weak sup.1.symm sup.2, T.keep _ _ _ st5 fun b hb o e => (I7.pin (b, o) (List.mem_append_right _ (List.mem_append_right _ (mem_pinsAt hb e)))).1, fun b hb => ?_⟩
        obtain ⟨o, e, d⟩ := T.obj _ _ st5 b hb
        exact (I7.pin (b, o) (List.mem_append_right _ (List.mem_append_right _ (mem_pinsAt hb e)))).2.1
      cases b with
      | false =>
        rw [if_neg Bool.false_ne_true] at q7
        obtain ⟨m', hm, w7⟩ := hN _ _ q7
        obtain ⟨J7, t7, f7⟩ := back I7
        rw [if_neg Bool.false_ne_true]
        first
          | exact wpAny_pure ⟨rfl, m', hm, i + 1, H7, ys, its, k, J7, rv3, t7, f7, w7⟩
          | exact wpAny_bind (wpAny_pure (wpAny_pure ⟨rfl, m', hm, i + 1, H7, ys, its, k, J7, rv3, t7, f7, w7⟩))
      | true =>
        rw [if_pos rfl] at q7
        rw [if_pos rfl]
        refine wpAny_bind (wpAny_bind (never (thn (he C s2 H fp _ s7 σ6 H7 _ I7 q7) fun y s8 ⟨v, H8, I8, r8, n8⟩ => ?_)))
        obtain ⟨m', hm, w8⟩ := hN _ _ n8
        obtain ⟨J8, t8, f8⟩ := back I8
        obtain ⟨a1, a2⟩ := accAt J8 (by simp)
        have hsz : its.size ≤ sizeLine := by
          have e := rv3.length
          have e2 : its.toList.length = its.size := by simp
          omega
        refine wpAny_bind (append_raw a1 hsz fun h' k' e' sb => ?_)
        have J9 : Inv (compCx X scope N' C s2 H fp) [] (pick pk σ) H8 { s8 with heap := h' } :=
          Inv.turned (t' := s8.toks) (it := D) (J8.pins_of fun p hp => nomatch hp) (fun b o hb e => (sb.2 b hb).trans e) a2 hDC (.inr hDle) (fun x c e z => by
            obtain ⟨w', o, ho, hd⟩ := J8.cell x c e
            rw [z, a1] at ho; cases ho; cases hd) fun p hp => nomatch (show p ∈ ([] : List (Addr × Obj)) ++ [] from hp)
        have J10 : Inv (compCx X scope N' C s2 H fp) [(D, { cls := .type "list", data := .seq (its.push y) k' })] (pick pk σ) H8 { s8 with heap := h' } :=
          J9.pins_of fun p hp => by
            have e : p = (D, ({ cls := .type "list", data := .seq (its.push y) k' } : Obj)) := by simpa using hp
            subst e
            refine ⟨e', a2, hDC, fun z => ?_, fun v z => nomatch z⟩
            obtain ⟨_, o, ho, _⟩ := I.stack.mem z
            exact absurd (Nat.lt_of_lt_of_le (Heap.lt_size ho) hDle) (Nat.lt_irrefl _)
        have t9 : tn (i + 1) h' := T.keep _ _ _ t8 fun b hb o e => (sb.2 b (fun z => Nat.lt_irrefl D (by have := hfs b hb; rw [z] at this; exact this))).trans e
        have rv9 : Vals (ys ++ [v]) (its.push y).toList := by
          rw [Array.toList_push]
          exact Vals.append rv3 (.cons r8 .nil)
        first
          | exact wpAny_pure (wpAny_pure ⟨rfl, m', hm, i + 1, H8, ys ++ [v], its.push y, k', J10, rv9, t9, f8, w8⟩)
          | exact wpAny_bind (wpAny_pure (wpAny_pure ⟨rfl, m', hm, i + 1, H8, ys ++ [v], its.push y, k', J10, rv9, t9, f8, w8⟩))
  exact codeAny_compStart_list (loop _ rfl) (T.self _ 0 _ _ _ st1 (loop _ rfl))

section
variable {X : Cx} {scope : Scope} {N' : List Str} {pk : List (Option Nat)} {tg elt iter : Expr} {ifs : List Expr} {pos : Pos} {wi : TI} {g : TG} {tt : TT} {te : TE}
/-- [elt for tg in iter if ..] -/
theorem pe_compA (S : CompScope X scope N' pk) (hi : PIA X tg iter wi) (hg : ∀ C s H ex, PG (compCx X scope N' C s H ex) tg g) (ht : ∀ C s H ex, PTs (compCx X scope N' C s H ex) ifs tt)
    (he : ∀ C s H ex, PE (compCx X scope N' C s H ex) elt te) (hs : ∀ x, foldedSetIterable iter X.env x = pure x := by intro _; rfl) : PE X (.ListComp elt [⟨tg, iter, ifs, 0⟩] scope pos) (tComp pk wi g tt te) := by
  intro pins s σ H Q I h
  rw [eval_ListComp]
  refine wpAny_comprehension_free (use := none) rfl hs (closureFor_of fun n hn => I.ok.has n (S.free n hn)) S.kind S.loc ?_
  refine thn (hi pins s σ H _ I h) fun v s1 h1 => thn h1 fun itv s2 h2 => ?_
  obtain ⟨it, fp, tn, J, H2, e, I2, T, st2, f2, hW⟩ := h2
  subst e
  refine comp_block (R := fun acc C => compPost (model X.prog X.w) X.A X.xe none (EP X pins σ Q) acc C) S hg ht he I2 T st2 f2 hW ?_
  intro C D s' ys H' hn q hv _ _
  obtain ⟨m, hm⟩ := hn
  exact ⟨m, hm, fun h' sb => ⟨.ref D, _, hv h' sb, rfl, q⟩⟩
theorem pe_comp (hc : X.calm = true) (S : CompScope X scope N' pk) (hi : PI X tg iter wi) (hg : ∀ C s H ex, PG (compCx X scope N' C s H ex) tg g) (ht : ∀ C s H ex, PTs (compCx X scope N' C s H ex) ifs tt)
    (he : ∀ C s H ex, PE (compCx X scope N' C s H ex) elt te) (hs : ∀ x, foldedSetIterable iter X.env x = pure x := by intro _; rfl) : PE X (.ListComp elt [⟨tg, iter, ifs, 0⟩] scope pos) (tComp pk wi g tt te) := pe_compA S (hi.toA hc) hg ht he hs
end

/-! ### the forms one uses -/
theorem sup_set {pk : List (Option Nat)} {σ : St} {x : V} : Sup (pick (none :: pk) σ) ((pick (none :: pk) σ).set 0 (some x)) := by
  refine ⟨by simp, fun i v h => ?_⟩
  cases i with
  | zero => exact nomatch (show (none : Option V) = some v from Option.some.inj h)
  | succ i => simpa [pick] using h
end L2

set_option Elab.async false
set_option linter.all false
set_option maxRecDepth 100000
set_option maxHeartbeats 1000000
namespace L2
open PySem PySem.Spec PyProof.Rows
section
variable {X : Cx}

/-! ### isinstance -/
def cV : V → Option Value
  | .ty n => some (.type n)
  | .ref C => some (.ref C)
  | _ => none
theorem cV_is {c : V} {t u : Value} (h : cV c = some t) (r : RelV c u) : u = t := by
  cases c with
  | ty n => cases h; exact r
  | ref C => cases h; exact r
  | _ => cases h
theorem call_isi : CallR X (.builtin "isinstance") (fun xs H Q => ∃ x c cv t b, xs = [x, c] ∧ cV c = some cv ∧ TyOf X.K H x t ∧ PySem.W.kitOne X.K t cv = some b ∧ Q (.bl b) H) := by
  intro pins s σ H xs us Q I r h
  obtain ⟨x, c, cv, t, b, rfl, hc, ty, e, q⟩ := h
  obtain ⟨u, w', rfl, r1, r2⟩ := vals2 r
  cases cV_is hc r2
  exact isinst_ok I r1 ty e fun tk => ⟨.bl b, H, I.tok _, rfl, q⟩

/-! ### all, any of a list of bools -/
/-! ### a text walked sign by sign -/
def Its (x : Str) : It := ⟨fun i _ => i < x.cps.size, fun i H v H' => H' = H ∧ ∃ c, x.cps[i]? = some c ∧ v = .str ⟨#[c]⟩, fun i _ => x.cps.size ≤ i⟩
def iStr (te : TE) : TI := fun σ H R => te σ H fun x H1 => ∃ z, x = .str z ∧ R (Its z) H1
/-! ### texts -/
/-- text * number, at least twice a text that isn't empty -/
theorem op_mul_str : OpR X (binaryOp .Mult) (fun x y H Q => ∃ z n, x = .str z ∧ y = .int n ∧ 1 < n ∧ n ≤ 1000 ∧ 0 < z.length ∧ z.length ≤ 1000 ∧ Q (.str ⟨(List.replicate n.toNat z.cps).foldl (· ++ ·) #[]⟩) H) := by
  intro pins s σ H x y v u Q I rx ry h
  obtain ⟨z, n, rfl, rfl, h1, h2, h3, h4, q⟩ := h
  obtain ⟨t, rfl⟩ := rx
  obtain ⟨t', rfl⟩ := ry
  have hm : (z.length : Int) * n ≤ 1000 * 1000 := Int.mul_le_mul (by omega) h2 (by omega) (by decide)
  have ht : z.length * n.toNat ≤ 1000000 := by
    have e : ((z.length * n.toNat : Nat) : Int) = (z.length : Int) * n := by rw [Int.natCast_mul, Int.toNat_of_nonneg (by omega)]
    omega
  have hs : sizeLine = 16777216 := sizeLine_eq
  have hb1 : (n == 1) = false := beq_eq_false_iff_ne.mpr (by omega)
  have hb2 : (z.length == 0) = false := beq_eq_false_iff_ne.mpr (by omega)
  refine PySem.P.mul_str ?_ (fun _ _ => ?_) (fun _ _ => notLongL (by omega)) ?_
  · rw [decide_eq_false (by omega), decide_eq_false (by omega)]; rfl
  · have := Int.le_ediv_of_mul_le (a := (z.length : Int)) (b := 2 ^ 63 - 1) (c := n) (by omega) (by omega)
    omega
  · rw [if_neg (by omega), hb1, hb2]
    refine ⟨?_, .str _, H, I.tok _, ⟨_, rfl⟩, q⟩
    show ((List.replicate n.toNat z.cps).foldl (· ++ ·) #[]).size ≤ sizeLine
    have go : ∀ (k : Nat) (acc : Array Nat), ((List.replicate k z.cps).foldl (· ++ ·) acc).size = acc.size + z.length * k := by
      intro k
      induction k with
      | zero => intro acc; simp
      | succ k ih =>
        intro acc
        rw [List.replicate_succ, List.foldl_cons, ih, Array.size_append, Nat.mul_succ]
        have e : z.cps.size = z.length := rfl
        omega
    rw [go]
    simp only [List.size_toArray, List.length_nil]
    omega

/-! ### ints -/
end
end L2

set_option Elab.async false
set_option linter.all false
set_option maxRecDepth 100000
set_option maxHeartbeats 1000000
namespace L2
open PySem PySem.Spec PyProof.Rows

/-! ### a def of the text that may be called -/
structure Cal (P : Program) (w : World) (K : PySem.W.Frag) (mg : Str → Option Value) (base : Heap) (n : Nat) (x : Str) (ps : List Str) (sp : Sp) : Prop where
  ex : ∃ f fd, FnOk P w K mg base CX0 n f fd ps sp ∧ Binds K fd ps [] ∧ PySem.W.keepIn K (.ref f) = true ∧ mg x = some (.ref f)
section
variable {X : Cx} {x : Str} {p pos : Pos} {e : Expr} {es : List Expr} {t : TA} {ps : List Str} {sp : Sp} {n m : Nat}
theorem pe_fn (c : Cal X.prog X.w X.K X.mg X.base n x ps sp) (hr : Room m X.A) (hn : n ≤ m) (hg : Gl X x) (ha : PA X (e :: es) t) (hdb : (x == ("__debug__" : Str)) = false := by decide)
    (he : starEach (e :: es) X.env = (false, eval e X.env) :: starEach es X.env := by rfl) (hpl : (backTo pos (starEach es X.env)).any (·.1) = false := by rfl) :
    PE X (.Call (.Name x p) (e :: es) [] pos) (tCall sp [] E0 t) := by
  obtain ⟨f, fd, F, b, k, hm⟩ := c.ex
  exact pe_call (F.mono hn) hr hg hm k b .nil pass0 ha hdb he hpl
end

/-! ### what a comprehension's scope must have, as a test -/
def compStatic (sc : Scope) (N : List Str) (scope : Scope) (N' : List Str) (pk : List (Option Nat)) : Bool :=
  (scope.kind == .function) && scope.names.all (fun y => y.2 != .cell) && scope.names.all (fun y => !(y.2 == .local) || scope.names.lookup y.1 == some .local) &&
  scope.names.all (fun y => !(y.2 == .free) || ((sc.names.lookup y.1 == some .cell || sc.names.lookup y.1 == some .free) && scope.names.lookup y.1 != some .local)) &&
  (pk.length == N'.length) && (List.range pk.length).all fun j => match pk[j]?, N'[j]? with
    | some (some i), some x => N[i]? == some x && scope.names.contains (x, NameKind.free)
    | _, _ => true
theorem comp_scope {X : Cx} {scope : Scope} {N' : List Str} {pk : List (Option Nat)} (h : compStatic X.env.scope X.N scope N' pk = true) : CompScope X scope N' pk := by
  unfold compStatic at h
  simp only [Bool.and_eq_true] at h
  obtain ⟨⟨⟨⟨⟨h1, h2⟩, h3⟩, h4⟩, h5⟩, h6⟩ := h
  refine ⟨by simpa using h1, fun y hy => ?_, fun y hy hl => ?_, fun n hn => ?_, fun n hn => ?_, by simpa using h5, fun j i x e1 e2 => ?_⟩
  · have := List.all_eq_true.mp h2 y hy
    simpa using this
  · have := List.all_eq_true.mp h3 y hy
    rw [hl] at this
    simpa using this
  · have := List.all_eq_true.mp h4 _ hn
    simp only [beq_self_eq_true, Bool.not_true, Bool.false_or, Bool.and_eq_true, Bool.or_eq_true] at this
    rcases this.1 with z | z
    · exact .inl (show X.env.scope.names.lookup n = _ by simpa using z)
    · exact .inr (show X.env.scope.names.lookup n = _ by simpa using z)
  · have := List.all_eq_true.mp h4 _ hn
    simp only [beq_self_eq_true, Bool.not_true, Bool.false_or, Bool.and_eq_true, Bool.or_eq_true] at this
    simpa using this.2
  · have hj : j < pk.length := (List.getElem?_eq_some_iff.mp e1).1
    have := List.all_eq_true.mp h6 j (List.mem_range.mpr hj)
    rw [e1, e2] at this
    simp only [Bool.and_eq_true] at this
    exact ⟨by simpa using this.1, by simpa using this.2⟩

/-! ### rules for several kinds at once -/
section
variable {X : Cx}
/-- len of a text, a list or a tuple -/
theorem call_lenU : CallR X (.builtin "len") (fun xs H Q => ∃ x, xs = [x] ∧ ((∃ z, x = .str z ∧ z.length ≤ sizeLine ∧ Q (.int z.length) H) ∨ ∃ p, x = .ref p ∧ ∃ ys, (SqL X.K H p ys ∨ SqT X.K H p ys) ∧ Q (.int ys.length) H)) := by
  intro pins s σ H xs us Q I r h
  obtain ⟨x, rfl, h⟩ := h
  rcases h with ⟨z, rfl, hz, q⟩ | ⟨p, rfl, ys, hq, q⟩
  · exact call_len_str pins s σ H _ us Q I r ⟨z, rfl, hz, q⟩
  · exact call_len_seq pins s σ H _ us Q I r ⟨p, ys, rfl, hq, q⟩
/-- an item of a list, a tuple, a text -/
def rIxU (K : PySem.W.Frag) : R2 := fun x y H Q => ∃ i, y = .int i ∧ ((∃ z, x = .str z ∧ z.length ≤ sizeLine ∧ ∃ c, atI z.cps.toList i = some c ∧ Q (.str ⟨#[c]⟩) H) ∨ ∃ p, x = .ref p ∧ ∃ xs, (SqL K H p xs ∨ SqT K H p xs) ∧ ∃ v, atI xs i = some v ∧ Q v H)
theorem ix_any : IxR X (rIxU X.K) := by
  intro value slice pins s σ H x y v u Q I rx ry h hs
  obtain ⟨i, rfl, h⟩ := h
  rcases h with ⟨z, rfl, hz, c, hc, q⟩ | ⟨p, rfl, xs, hq | hq, w', hv, q⟩
  · exact ix_str value slice pins s σ H _ _ v u Q I rx ry ⟨z, i, c, rfl, rfl, hz, hc, q⟩ hs
  · exact ix_list value slice pins s σ H _ _ v u Q I rx ry ⟨p, xs, i, w', rfl, rfl, hq, hv, q⟩ hs
  · exact ix_tup value slice pins s σ H _ _ v u Q I rx ry ⟨p, xs, i, w', rfl, rfl, hq, hv, q⟩ hs
/-- an int, taken from a list of ints by a place within it -/
theorem atI_ints {ns : List Int} {k : Int} (h0 : 0 ≤ k) (h1 : k < ns.length) : atI (ns.map V.int) k = some (.int (ns.getD k.toNat 0)) := by
  obtain ⟨j, rfl⟩ := Int.eq_ofNat_of_zero_le h0
  refine atI_nat ?_
  have hj : j < ns.length := by omega
  rw [List.getElem?_map, List.getElem?_eq_getElem hj]
  simp [List.getD, List.getElem?_eq_getElem hj]
/-- any sequence walked -/
def iSeq (K : PySem.W.Frag) (te : TE) : TI := fun σ H R => te σ H fun x H1 => (∃ z, x = .str z ∧ R (Its z) H1) ∨ (∃ a, x = .ref a ∧ (∃ xs, SqL K H1 a xs) ∧ R (Itl K a) H1) ∨ (∃ a, x = .ref a ∧ (∃ xs, SqT K H1 a xs) ∧ R (Itt K a) H1)
/-! ### loops and comprehensions with their iterator in hand -/
def cmpW (J : It) (pk : List (Option Nat)) (g : TG) (tt : TT) (te : TE) (σ : St) (H : Hp) (Q : VK) : Prop := ∃ W : Nat → Nat → List V → Hp → Prop, (∃ m, W 0 m [] H) ∧ ∀ i m ys H, W i m ys H →
  (J.stop i H ∧ ys.length ≤ sizeLine ∧ ∀ p, H p = none → Q (.ref p) (upd H p (.lst ys))) ∨
  (J.go i H ∧ ys.length < sizeLine ∧ ∃ N : List V → Hp → Prop, (∀ zs H', N zs H' → ∃ m', m' < m ∧ W (i + 1) m' zs H') ∧ ∀ x H', J.yld i H x H' → g x (pick pk σ) H' fun σ2 H2 => Sup (pick pk σ) σ2 ∧ tt σ2 H2 fun b H3 =>
    if b = true then te σ2 H3 fun v H4 => N (ys ++ [v]) H4 else N ys H3)
def forW (J : It) (g : TG) (tb : TS) (D : Ends) (σ : St) (H : Hp) : Prop := ∃ W : Nat → Nat → St → Hp → Prop, (∃ m, W 0 m σ H) ∧ ∀ i m σ H, W i m σ H →
  (J.stop i H ∧ D.nx σ H) ∨ (J.go i H ∧ ∃ N : St → Hp → Prop, (∀ σ' H', N σ' H' → ∃ m', m' < m ∧ W (i + 1) m' σ' H') ∧ ∀ x H', J.yld i H x H' → g x σ H' fun σ2 H2 => tb { D with nx := N, ct := N, bk := D.nx } σ2 H2)
section
variable {K : PySem.W.Frag} {a : Addr} {xs : List V} {g : TG} {tb : TS} {D : Ends} {σ : St} {H : Hp}
theorem forW_range {lo : Int} {n : Nat} (Pv : Nat → St → Hp → Prop) (h0 : Pv 0 σ H)
    (hs : ∀ i σ H, i < n → Pv i σ H → g (.int (lo + i)) σ H fun σ2 H2 => tb { D with nx := Pv (i + 1), ct := Pv (i + 1), bk := D.nx } σ2 H2) (hd : ∀ σ H, Pv n σ H → D.nx σ H) : forW (Itr lo n) g tb D σ H := for_range Pv h0 hs hd
end
/-! ### comprehensions: the forms one uses -/
theorem comp_range {lo : Int} {n : Nat} {pk : List (Option Nat)} {g : TG} {tt : TT} {te : TE} {σ : St} {H : Hp} {Q : VK} (Pv : Nat → List V → Hp → Prop) (hn : n ≤ sizeLine) (hlen : ∀ i ys H, Pv i ys H → ys.length ≤ i) (h0 : Pv 0 [] H)
    (hs : ∀ i ys H, i < n → Pv i ys H → g (.int (lo + i)) (pick pk σ) H fun σ2 H2 => Sup (pick pk σ) σ2 ∧ tt σ2 H2 fun b H3 => if b = true then te σ2 H3 fun v H4 => Pv (i + 1) (ys ++ [v]) H4 else Pv (i + 1) ys H3)
    (hd : ∀ ys H, Pv (n) ys H → ∀ p, H p = none → Q (.ref p) (upd H p (.lst ys))) :
    cmpW (Itr lo n) pk g tt te σ H Q := by
  refine ⟨fun i m ys H => m = n - i ∧ i ≤ n ∧ Pv i ys H, ⟨n, by simp, Nat.zero_le _, h0⟩, ?_⟩
  rintro i m ys H ⟨rfl, hi, p⟩
  have hl := hlen _ _ _ p
  by_cases hlt : i < n
  · refine .inr ⟨hlt, by omega, Pv (i + 1), fun zs H' p' => ⟨n - (i + 1), by omega, rfl, hlt, p'⟩, fun x H' y => ?_⟩
    obtain ⟨e, y⟩ := y
    subst e y
    exact hs i ys _ hlt p
  · have e : i = n := by omega
    subst e
    exact .inl ⟨Nat.le_refl _, by omega, hd ys H p⟩
end

/-! ### the same with the text's part named (a comprehension's block has the part of the def around it) -/
section
variable {X : Cx} {K : PySem.W.Frag}
theorem ix_anyK (hK : X.K = K) : IxR X (rIxU K) := hK ▸ ix_any
def rLenU (K : PySem.W.Frag) : List V → Hp → VK → Prop := fun xs H Q => ∃ x, xs = [x] ∧ ((∃ z, x = .str z ∧ z.length ≤ sizeLine ∧ Q (.int z.length) H) ∨ ∃ p, x = .ref p ∧ ∃ ys, (SqL K H p ys ∨ SqT K H p ys) ∧ Q (.int ys.length) H)
theorem call_lenK (hK : X.K = K) : CallR X (.builtin "len") (rLenU K) := hK ▸ call_lenU
def rIsi (K : PySem.W.Frag) : List V → Hp → VK → Prop := fun xs H Q => ∃ x c cv t b, xs = [x, c] ∧ cV c = some cv ∧ TyOf K H x t ∧ PySem.W.kitOne K t cv = some b ∧ Q (.bl b) H
theorem call_isiK (hK : X.K = K) : CallR X (.builtin "isinstance") (rIsi K) := hK ▸ call_isi
def rAllB (K : PySem.W.Frag) : List V → Hp → VK → Prop := fun xs H Q => ∃ (a : Addr) (bs : List Bool), xs = [.ref a] ∧ SqL K H a (List.map V.bl bs) ∧ Q (.bl (bs.all id)) H
def rListOf (K : PySem.W.Frag) : List V → Hp → VK → Prop := fun xs H Q => ∃ p ys, xs = [.ref p] ∧ (SqL K H p ys ∨ SqT K H p ys) ∧ ∀ l, H l = none → Q (.ref l) (upd H l (.lst ys))
def rTupleOf (K : PySem.W.Frag) : List V → Hp → VK → Prop := fun xs H Q => ∃ p ys, xs = [.ref p] ∧ ((SqL K H p ys ∧ ∀ l, H l = none → Q (.ref l) (upd H l (.tup ys))) ∨ (SqT K H p ys ∧ Q (.ref p) H))
theorem call_tupleK (hK : X.K = K) : CallR X (.type "tuple") (rTupleOf K) := hK ▸ call_tuple_of
def rJoinL (K : PySem.W.Frag) : V → List V → Hp → VK → Prop := fun x xs H Q => ∃ z a ts, x = .str z ∧ xs = [.ref a] ∧ SqL K H a (ts.map V.str) ∧ (ts.toArray.foldl (· + ·.length + z.length) 0) ≤ sizeLine ∧ (Builtin.Str.glued z ts).length ≤ sizeLine ∧ Q (.str (Builtin.Str.glued z ts)) H
def tTru (K : PySem.W.Frag) (ta : TE) : TT := fun σ H Q => ta σ H fun x H' => ∃ k, TruV K x H' k ∧ Q k H'
end
/-! ### the same rules with cheap side conditions -/
def notStar : Expr → Bool
  | .Starred _ _ => false
  | _ => true
theorem starEach_c {e : Expr} {es : List Expr} {env : Env} (h : notStar e = true) : starEach (e :: es) env = (false, eval e env) :: starEach es env := by
  cases e <;> first | rfl | cases h
def plainAll : List Expr → Bool
  | [] => true
  | e :: es => notStar e && plainAll es
theorem plain_any {pos : Pos} {env : Env} : ∀ {es : List Expr}, plainAll es = true → (backTo pos (starEach es env)).any (·.1) = false
  | [], _ => rfl
  | e :: es, h => by
    have h' : (notStar e && plainAll es) = true := h
    rw [Bool.and_eq_true] at h'
    rw [starEach_c h'.1]
    show (false || (backTo pos (starEach es env)).any (·.1)) = false
    rw [plain_any h'.2]; rfl
theorem plain_all {pos : Pos} {env : Env} : ∀ {es : List Expr}, plainAll es = true → (backTo pos (starEach es env)).all (fun x => !x.1) = true
  | [], _ => rfl
  | e :: es, h => by
    have h' : (notStar e && plainAll es) = true := h
    rw [Bool.and_eq_true] at h'
    rw [starEach_c h'.1]
    show (true && (backTo pos (starEach es env)).all (fun x => !x.1)) = true
    rw [plain_all h'.2]; rfl
def notCall0 : Expr → Bool
  | .Call _ [] [] _ => false
  | _ => true
theorem base_c {o : Expr} {name : Str} {env : Env} {wh : Sem Value} (h : notCall0 o = true) : attributeBase o name env wh = wh := by
  unfold attributeBase
  split
  · cases h
  · rfl
def plainTest : Expr → Bool
  | .UnaryOp _ _ _ => false
  | .BoolOp _ _ _ => false
  | .IfExp _ _ _ _ => false
  | .Compare _ _ _ _ => false
  | _ => true
theorem isTrue_c {e : Expr} {env : Env} {wh : Sem Value} (h : plainTest e = true) : isTrue e env wh = (do let v ← wh; standAt e.pos; holding [v] (truthy v)) := by
  cases e <;> first | rfl | cases h
section
variable {X : Cx} {K : PySem.W.Frag} {x : Str} {p pos apos cpos : Pos} {e o a : Expr} {es : List Expr} {t : TA} {te to ta : TE} {ps : List Str} {sp : Sp} {n m : Nat} {id T : String} {r : List V → Hp → VK → Prop} {name : Str} {rm : V → List V → Hp → VK → Prop}
theorem pa_c (ha : PE X e te) (hr : PA X es t) (hs : notStar e = true := by rfl) : PA X (e :: es) (tCons te t) := pa_cons ha hr (starEach_c hs)
theorem pe_fnP (c : Cal X.prog X.w X.K X.mg X.base n x ps sp) (hr : Room m X.A) (hn : n ≤ m) (hg : Gl X x) (ha : PA X (e :: es) t) (hdb : (x == ("__debug__" : Str)) = false := by decide) (hp : plainAll (e :: es) = true := by rfl) :
    PE X (.Call (.Name x p) (e :: es) [] pos) (tCall sp [] E0 t) := by
  have h' : (notStar e && plainAll es) = true := hp
  rw [Bool.and_eq_true] at h'
  exact pe_fn c hr hn hg ha hdb (starEach_c h'.1) (plain_any h'.2)
theorem pe_callBP (hc : CallR X (.builtin id) r) (hg : Gl X x) (hm : X.mg x = none) (hv : bootBuiltins x = some (.builtin id)) (ha : PA X (e :: es) t) (hn : x ≠ "__name__" := by decide) (hdb : (x == ("__debug__" : Str)) = false := by decide)
    (hp : plainAll (e :: es) = true := by rfl) : PE X (.Call (.Name x p) (e :: es) [] pos) (tCB r t) := by
  have h' : (notStar e && plainAll es) = true := hp
  rw [Bool.and_eq_true] at h'
  exact pe_callB hc hg hm hv ha hn hdb (starEach_c h'.1) (plain_any h'.2)
theorem pe_callTyP (hc : CallR X (.type T) r) (hg : Gl X x) (hm : X.mg x = none) (hv : bootBuiltins x = some (.type T)) (ha : PA X (e :: es) t) (hn : x ≠ "__name__" := by decide) (hdb : (x == ("__debug__" : Str)) = false := by decide)
    (hp : plainAll (e :: es) = true := by rfl) : PE X (.Call (.Name x p) (e :: es) [] pos) (tCB r t) := by
  have h' : (notStar e && plainAll es) = true := hp
  rw [Bool.and_eq_true] at h'
  exact pe_callTy hc hg hm hv ha hn hdb (starEach_c h'.1) (plain_any h'.2)
end
end L2

set_option Elab.async false
set_option linter.all false
set_option maxRecDepth 100000
set_option maxHeartbeats 1000000
namespace L2
open PySem PySem.Spec PyProof.Rows

/-! ### readings that compute: run by the goal's head alone -/
def ifB (b : Bool) (A B : Prop) : Prop := if b = true then A else B
theorem ifB_by {b : Bool} {A B : Prop} (h1 : b = true → A) (h2 : b = false → B) : ifB b A B := by
  cases b with
  | true => exact h1 rfl
  | false => exact h2 rfl
theorem ifB_t {b : Bool} {A B : Prop} (e : b = true) (h : A) : ifB b A B := by subst e; exact h
theorem ifB_f {b : Bool} {A B : Prop} (e : b = false) (h : B) : ifB b A B := by subst e; exact h
/-- a decision over ints, texts: the two ways -/
theorem ifD {c : Prop} [Decidable c] {A B : Prop} (h1 : c → A) (h2 : ¬ c → B) : ifB (decide c) A B := ifB_by (fun h => h1 (of_decide_eq_true h)) (fun h => h2 (of_decide_eq_false h))
theorem ifDt {c : Prop} [Decidable c] {A B : Prop} (hc : c) (h : A) : ifB (decide c) A B := ifB_t (decide_eq_true hc) h
theorem ifDf {c : Prop} [Decidable c] {A B : Prop} (hc : ¬ c) (h : B) : ifB (decide c) A B := ifB_f (decide_eq_false hc) h
theorem PE.imp {X : Cx} {e : Expr} {t t' : TE} (h : PE X e t) (i : ∀ σ H Q, t' σ H Q → t σ H Q) : PE X e t' := fun pins s σ H Q I q => h pins s σ H Q I (i σ H Q q)
theorem OpR.imp {X : Cx} {f : Value → Value → Sem Value} {r r' : R2} (h : OpR X f r) (i : ∀ x y H Q, r' x y H Q → r x y H Q) : OpR X f r' := fun pins s σ H x y v u Q I rx ry q => h pins s σ H x y v u Q I rx ry (i _ _ _ _ q)
theorem IxR.imp {X : Cx} {r r' : R2} (h : IxR X r) (i : ∀ x y H Q, r' x y H Q → r x y H Q) : IxR X r' := fun value slice pins s σ H x y v u Q I rx ry q => h value slice pins s σ H x y v u Q I rx ry (i _ _ _ _ q)
theorem CallR.imp {X : Cx} {f : Value} {r r' : List V → Hp → VK → Prop} (h : CallR X f r) (i : ∀ xs H Q, r' xs H Q → r xs H Q) : CallR X f r' := fun pins s σ H xs us Q I rx q => h pins s σ H xs us Q I rx (i _ _ _ q)
/-! names -/
def wVar (i : Nat) : TE := fun σ H Q => match σ[i]? with | some (some v) => Q v H | _ => False
theorem wv {X : Cx} (i : Nat) {x : Str} {pos : Pos} (hN : X.N[i]? = some x := by rfl) (hv : Vis X.env.scope x := by first | exact Or.inl rfl | exact Or.inr (Or.inl rfl) | exact Or.inr (Or.inr rfl)) (hd : (x == ("__debug__" : Str)) = false := by decide)
    (hcd : (x == ("__classdict__" : Str)) = false := by decide) : PE X (.Name x pos) (wVar i) :=
  (pe_var hN hv hd hcd).imp fun σ H Q h => by
    unfold wVar at h
    cases e : σ[i]? with
    | none => rw [e] at h; exact h.elim
    | some o =>
      cases o with
      | none => rw [e] at h; exact h.elim
      | some v => rw [e] at h; exact ⟨v, e, h⟩

/-! ints -/
def wI (g : Int → Int → V) : R2 := fun x y H Q => match x, y with | .int i, .int j => Q (g i j) H | _, _ => False
def wC (C : Int → Int → Prop) (g : Int → Int → V) : R2 := fun x y H Q => match x, y with | .int i, .int j => C i j ∧ Q (g i j) H | _, _ => False
theorem wI_imp {g : Int → Int → V} : ∀ x y H Q, wI g x y H Q → rI0 g x y H Q := fun x y H Q h => by
  cases x with
  | int i => cases y with
    | int j => exact ⟨i, j, rfl, rfl, h⟩
    | _ => exact False.elim h
  | _ => exact False.elim h
theorem wC_imp {C : Int → Int → Prop} {g : Int → Int → V} : ∀ x y H Q, wC C g x y H Q → rI C g x y H Q := fun x y H Q h => by
  cases x with
  | int i => cases y with
    | int j => exact ⟨i, j, rfl, rfl, h⟩
    | _ => exact False.elim h
  | _ => exact False.elim h
section
variable {X : Cx} {K : PySem.W.Frag}
theorem w_sub : OpR X (binaryOp .Sub) (wI fun i j => .int (i - j)) := op_sub.imp wI_imp
theorem w_fdiv : OpR X (binaryOp .FloorDiv) (wC CDiv fun i j => .int (i / j)) := op_fdiv.imp wC_imp
def wMod : R2 := fun x y H Q => match x, y with | .int i, .int j => 0 < j ∧ Q (.int (i % j)) H | _, _ => False
theorem w_mod : OpR X (binaryOp .Mod) wMod := op_mod.imp fun x y H Q h => wC_imp (C := fun _ j => 0 < j) (g := fun i j => .int (i % j)) x y H Q (by
  cases x with
  | int i => cases y with
    | int j => exact h
    | _ => exact False.elim h
  | _ => exact False.elim h)
theorem w_pow : OpR X (binaryOp .Pow) (wC CPow fun i j => .int (i ^ j.toNat)) := op_pow.imp wC_imp
def wShr : R2 := fun x y H Q => match x, y with | .int i, .int j => 0 ≤ j ∧ Q (.int (i / 2 ^ j.toNat)) H | _, _ => False
theorem w_lt : OpR X (compareOp .Lt) (wI fun i j => .bl (decide (i < j))) := op_lt.imp wI_imp
theorem w_gt : OpR X (compareOp .Gt) (wI fun i j => .bl (decide (j < i))) := op_gt.imp wI_imp
/-- + of ints, texts, lists -/
def catL (p q : Addr) (H : Hp) (Q : VK) : Prop := ∃ xs ys, H p = some (.lst xs) ∧ H q = some (.lst ys) ∧ xs.length + ys.length ≤ sizeLine ∧ ∀ l, H l = none → Q (.ref l) (upd H l (.lst (xs ++ ys)))
def wAdd : R2 := fun x y H Q => match x, y with
  | .int i, .int j => Q (.int (i + j)) H
  | .str a, .str b => a.length + b.length ≤ sizeLine ∧ Q (.str (a ++ b)) H
  | .ref p, .ref q => catL p q H Q
  | _, _ => False
theorem w_add : OpR X (binaryOp .Add) wAdd := (op_add.or (op_add_str.or op_cat)).imp fun x y H Q h => by
  cases x with
  | int i => cases y with
    | int j => exact .inl ⟨i, j, rfl, rfl, h⟩
    | _ => exact False.elim h
  | str a => cases y with
    | str b => exact .inr (.inl ⟨a, b, rfl, rfl, h⟩)
    | _ => exact False.elim h
  | ref p => cases y with
    | ref q => obtain ⟨xs, ys, h1, h2, h3, h4⟩ := h; exact .inr (.inr ⟨p, q, xs, ys, rfl, rfl, h1, h2, h3, h4⟩)
    | _ => exact False.elim h
  | _ => exact False.elim h
/-- * of ints, a text by an int -/
def wMul : R2 := fun x y H Q => match x, y with
  | .int i, .int j => CMul i j ∧ Q (.int (i * j)) H
  | .str z, .int n => (1 < n ∧ n ≤ 1000 ∧ 0 < z.length ∧ z.length ≤ 1000) ∧ Q (.str ⟨(List.replicate n.toNat z.cps).foldl (· ++ ·) #[]⟩) H
  | _, _ => False
theorem w_mul : OpR X (binaryOp .Mult) wMul := (op_mul.or op_mul_str).imp fun x y H Q h => by
  cases x with
  | int i => cases y with
    | int j => exact .inl ⟨i, j, rfl, rfl, h⟩
    | _ => exact False.elim h
  | str z => cases y with
    | int n => exact .inr ⟨z, n, rfl, rfl, h.1.1, h.1.2.1, h.1.2.2.1, h.1.2.2.2, h.2⟩
    | _ => exact False.elim h
  | _ => exact False.elim h
def wNeg : V → Hp → VK → Prop := fun x H Q => match x with | .int i => Q (.int (-i)) H | _ => False
/-! == and != of plain values -/
def eqS : V → V → Option Bool
  | .non, .non => some true
  | .int i, .int j => some (decide (i = j))
  | .str a, .str b => some (decide (a = b))
  | .bl a, .bl b => some (decide (a = b))
  | .non, .int _ => some false | .int _, .non => some false | .non, .str _ => some false | .str _, .non => some false | .non, .bl _ => some false | .bl _, .non => some false
  | .int _, .str _ => some false | .str _, .int _ => some false | .bl _, .str _ => some false | .str _, .bl _ => some false
  | _, _ => none
theorem eqS_is {x y : V} {b : Bool} (h : eqS x y = some b) : scal x y = true ∧ decide (x = y) = b := by
  cases x <;> cases y <;> first | cases h | skip
  all_goals first
    | exact ⟨rfl, by simp⟩
    | (refine ⟨rfl, ?_⟩; simp)
def wEq : R2 := fun x y H Q => match eqS x y with | some b => Q (.bl b) H | none => False
def wNe : R2 := fun x y H Q => match eqS x y with | some b => Q (.bl (!b)) H | none => False
def wIsN (neg : Bool) : R2 := fun x y H Q => match y with
  | .non => (match x with | .non => Q (.bl (!neg)) H | _ => Q (.bl neg) H)
  | _ => False
/-! in -/
def seqIn (K : PySem.W.Frag) (neg : Bool) (x : V) (p : Addr) (H : Hp) (Q : VK) : Prop := ∃ xs, (SqL K H p xs ∨ SqT K H p xs) ∧ flatV x = true ∧ xs.all flatV = true ∧ Q (.bl (if neg then !inV x xs else inV x xs)) H
def strIn (a b : Str) : Bool := !(Builtin.Str.occurrences b a 0 b.length 1).isEmpty
def wIn (K : PySem.W.Frag) (neg : Bool) : R2 := fun x y H Q => match y with
  | .str b => (match x with | .str a => Q (.bl (if neg then !strIn a b else strIn a b)) H | _ => False)
  | .ref p => seqIn K neg x p H Q
  | _ => False
/-! items, lengths -/
def seqAt (K : PySem.W.Frag) (p : Addr) (i : Int) (H : Hp) (Q : VK) : Prop := ∃ xs, (SqL K H p xs ∨ SqT K H p xs) ∧ ∃ v, atI xs i = some v ∧ Q v H
def signAt (z : Str) (i : Int) (H : Hp) (Q : VK) : Prop := z.length ≤ sizeLine ∧ ∃ c, atI z.cps.toList i = some c ∧ Q (.str ⟨#[c]⟩) H
def wIx (K : PySem.W.Frag) : R2 := fun x y H Q => match x, y with
  | .str z, .int i => signAt z i H Q
  | .ref p, .int i => seqAt K p i H Q
  | _, _ => False
theorem w_ix (hK : X.K = K) : IxR X (wIx K) := (ix_anyK hK).imp fun x y H Q h => by
  cases x with
  | str z => cases y with
    | int i => obtain ⟨h1, h2⟩ := h; exact ⟨i, rfl, .inl ⟨z, rfl, h1, h2⟩⟩
    | _ => exact False.elim h
  | ref p => cases y with
    | int i => obtain ⟨xs, h1, h2⟩ := h; exact ⟨i, rfl, .inr ⟨p, rfl, xs, h1, h2⟩⟩
    | _ => exact False.elim h
  | _ => exact False.elim h
def seqLen (K : PySem.W.Frag) (p : Addr) (H : Hp) (Q : VK) : Prop := ∃ ys, (SqL K H p ys ∨ SqT K H p ys) ∧ Q (.int ys.length) H
def wLen (K : PySem.W.Frag) : List V → Hp → VK → Prop := fun xs H Q => match xs with
  | [.str z] => z.length ≤ sizeLine ∧ Q (.int z.length) H
  | [.ref p] => seqLen K p H Q
  | _ => False
theorem w_len (hK : X.K = K) : CallR X (.builtin "len") (wLen K) := (call_lenK hK).imp fun xs H Q h => by
  match xs, h with
  | [.str z], h => exact ⟨_, rfl, .inl ⟨z, rfl, h⟩⟩
  | [.ref p], h => exact ⟨_, rfl, .inr ⟨p, rfl, h⟩⟩
/-! int(..), isinstance -/
def intOf (x : Str) (H : Hp) (Q : VK) : Prop := ∃ n, PySem.intText? x = some n ∧ x.length ≤ 640 ∧ Q (.int n) H
def wInt : List V → Hp → VK → Prop := fun xs H Q => match xs with
  | [.int i] => Q (.int i) H
  | [.bl k] => Q (.int (if k then 1 else 0)) H
  | [.str x] => intOf x H Q
  | _ => False
/-- isinstance(x, T) of a plain value and a built-in type -/
def isiT : V → String → Option Bool
  | .non, T => some (T == "NoneType")
  | .bl _, T => some (T == "bool" || T == "int")
  | .int _, T => some (T == "int")
  | .str _, T => some (T == "str")
  | _, _ => none
def isiRef (K : PySem.W.Frag) (x c : V) (H : Hp) (Q : VK) : Prop := ∃ cv t b, cV c = some cv ∧ TyOf K H x t ∧ PySem.W.kitOne K t cv = some b ∧ Q (.bl b) H
def plainT (T : String) : Bool := T == "int" || T == "str" || T == "bool" || T == "list" || T == "tuple" || T == "dict"
def wIsi (K : PySem.W.Frag) : List V → Hp → VK → Prop := fun xs H Q => match xs with
  | [x, .ty T] => (match isiT x T with | some b => plainT T = true ∧ Q (.bl b) H | none => isiRef K x (.ty T) H Q)
  | [x, c] => isiRef K x c H Q
  | _ => False
end
theorem kit_plain {K : PySem.W.Frag} {H : Hp} {x : V} {T : String} {b : Bool} (h : isiT x T = some b) (hp : plainT T = true) : ∃ t, TyOf K H x t ∧ PySem.W.kitOne K t (.type T) = some b := by
  have ho : T = "int" ∨ T = "str" ∨ T = "bool" ∨ T = "list" ∨ T = "tuple" ∨ T = "dict" := by
    unfold plainT at hp
    simp only [Bool.or_eq_true, beq_iff_eq] at hp
    rcases hp with ((((h | h) | h) | h) | h) | h <;> simp [h]
  cases x with
  | non => refine ⟨_, .non, ?_⟩; rcases ho with rfl | rfl | rfl | rfl | rfl | rfl <;> (cases h; rfl)
  | bl y => refine ⟨_, .bl y, ?_⟩; rcases ho with rfl | rfl | rfl | rfl | rfl | rfl <;> (cases h; rfl)
  | int y => refine ⟨_, .int y, ?_⟩; rcases ho with rfl | rfl | rfl | rfl | rfl | rfl <;> (cases h; rfl)
  | str y => refine ⟨_, .str y, ?_⟩; rcases ho with rfl | rfl | rfl | rfl | rfl | rfl <;> (cases h; rfl)
  | _ => cases h
end L2

set_option Elab.async false
set_option linter.all false
set_option maxRecDepth 100000
set_option maxHeartbeats 1000000
namespace L2
open PySem PySem.Spec PyProof.Rows
section
variable {X : Cx} {K : PySem.W.Frag} {a b c e : Expr} {ta tb te : TE} {tA tB' : TT} {rest : List Expr} {pos : Pos}
theorem w_isi (hK : X.K = K) : CallR X (.builtin "isinstance") (wIsi K) := (call_isiK hK).imp fun xs H Q h => by
  have ref : ∀ x c, isiRef K x c H Q → rIsi K [x, c] H Q := fun x c ⟨cv, t, b, h1, h2, h3, h4⟩ => ⟨x, c, cv, t, b, rfl, h1, h2, h3, h4⟩
  match xs, h with
  | [x, .ty T], h =>
    have h' : (match isiT x T with | some b => plainT T = true ∧ Q (.bl b) H | none => isiRef K x (.ty T) H Q) := h
    cases e : isiT x T with
    | none => rw [e] at h'; exact ref _ _ h'
    | some b =>
      rw [e] at h'
      obtain ⟨t, h1, h2⟩ := kit_plain (K := K) (H := H) e h'.1
      exact ⟨x, .ty T, _, t, b, rfl, rfl, h1, h2, h'.2⟩
  | [x, .ref C], h => exact ref _ _ h
  | [x, .non], h => exact ref _ _ h
  | [x, .bl _], h => exact ref _ _ h
  | [x, .int _], h => exact ref _ _ h
  | [x, .str _], h => exact ref _ _ h
  | [x, .byt _], h => exact ref _ _ h
  | [x, .flt _], h => exact ref _ _ h

/-! tests -/
def wTest (t : TE) : TT := fun σ H Q => t σ H fun x H' => match x with | .bl k => Q k H' | _ => False
theorem wt_cmp {op : CmpOp} {r : R2} (ho : OpR X (compareOp op) r) (ha : PE X a ta) (hb : PE X b tb) (hm : behindInMarks op b = false) : PT X (.Compare a [op] [b] pos) (wTest (tOp r ta tb)) := by
  intro pins s σ H Q I h
  refine wpAny_isTrue_Compare1 (thn (ha pins s σ H _ I h) fun v s1 ⟨x, H1, I1, r1, q1⟩ => thn (hb pins s1 σ H1 _ I1 q1) fun u s2 ⟨y, H2, I2, r2, q2⟩ =>
    thn (ho pins s2 σ H2 x y v u _ I2 r1 r2 q2) fun cv s3 ⟨z, H3, I3, r3, q3⟩ => ?_) hm
  cases z with
  | bl k => cases r3; exact wpAny_truthy_bool ⟨H3, I3, q3⟩
  | _ => exact False.elim q3
/-- a value's truth -/
def seqTru (K : PySem.W.Frag) (p : Addr) (H : Hp) (Q : Bool → Hp → Prop) : Prop := (∃ xs, (SqL K H p xs ∨ SqT K H p xs) ∧ Q (!xs.isEmpty) H) ∨ ∃ kvs, H p = some (.dK kvs) ∧ Q (!kvs.isEmpty) H
def wTru (K : PySem.W.Frag) (ta : TE) : TT := fun σ H Q => ta σ H fun x H' => match x with
  | .bl k => Q k H'
  | .non => Q false H'
  | .int i => Q (i != 0) H'
  | .str y => y.length ≤ sizeLine ∧ Q ((y.length : Int) != 0) H'
  | .ref p => seqTru K p H' Q
  | _ => False
theorem wt_tr (hK : X.K = K) (ha : PE X a ta) (hp : plainTest a = true := by rfl) : PT X a (wTru K ta) := by
  subst hK
  intro pins s σ H Q I h
  refine isTrue_plain (thn (ha pins s σ H _ I h) fun v s1 ⟨x, H1, I1, r1, q1⟩ => ?_) (isTrue_c hp)
  cases x with
  | bl k => exact tru_ok pins s1 σ H1 _ v Q I1 r1 ⟨k, rfl, q1⟩
  | non => exact tru_ok pins s1 σ H1 _ v Q I1 r1 ⟨false, rfl, q1⟩
  | int i => exact tru_ok pins s1 σ H1 _ v Q I1 r1 ⟨_, rfl, q1⟩
  | str y => exact tru_ok pins s1 σ H1 _ v Q I1 r1 ⟨_, ⟨q1.1, rfl⟩, q1.2⟩
  | ref p =>
    rcases q1 with ⟨xs, hq | hq, q⟩ | ⟨kvs, hq, q⟩
    · exact tru_ok pins s1 σ H1 _ v Q I1 r1 ⟨_, .inl ⟨xs, hq, rfl⟩, q⟩
    · exact tru_ok pins s1 σ H1 _ v Q I1 r1 ⟨_, .inr (.inl ⟨xs, hq, rfl⟩), q⟩
    · exact tru_ok pins s1 σ H1 _ v Q I1 r1 ⟨_, .inr (.inr ⟨kvs, hq, rfl⟩), q⟩
  | _ => exact False.elim q1
def wAnd (t u : TT) : TT := fun σ H Q => t σ H fun c H1 => ifB c (u σ H1 Q) (Q false H1)
def wOr (t u : TT) : TT := fun σ H Q => t σ H fun c H1 => ifB c (Q true H1) (u σ H1 Q)
theorem ww_and (ha : PT X a tA) (hb : PW X (.BoolOp .And (b :: rest) pos) tB') : PW X (.BoolOp .And (a :: b :: rest) pos) (wAnd tA tB') := pw_and ha hb
theorem ww_or (ha : PT X a tA) (hb : PW X (.BoolOp .Or (b :: rest) pos) tB') : PW X (.BoolOp .Or (a :: b :: rest) pos) (wOr tA tB') := pw_or ha hb
/-- and, or, not as values; the first ones bools -/
def wAndV (ta tb : TE) : TE := fun σ H Q => ta σ H fun x H1 => match x with | .bl c => ifB c (tb σ H1 Q) (Q (.bl false) H1) | _ => False
def wOrV (ta tb : TE) : TE := fun σ H Q => ta σ H fun x H1 => match x with | .bl c => ifB c (Q (.bl true) H1) (tb σ H1 Q) | _ => False
def wNotV (tA : TT) : TE := fun σ H Q => tA σ H fun c H1 => Q (.bl (!c)) H1
theorem we_and (ha : PE X a ta) (hb : PE X (.BoolOp .And (b :: rest) pos) tb) : PE X (.BoolOp .And (a :: b :: rest) pos) (wAndV ta tb) := by
  intro pins s σ H Q I h
  refine BoolOp_and (thn (ha pins s σ H _ I h) fun v s1 ⟨x, H1, I1, r1, q1⟩ => ?_)
  cases x with
  | bl c =>
    cases r1
    refine wpAny_truthy_bool ?_
    cases c with
    | true => exact hb pins s1 σ H1 Q I1 q1
    | false => exact ⟨.bl false, H1, I1, rfl, q1⟩
  | _ => exact False.elim q1
/-- not of a value -/
def wNot (K : PySem.W.Frag) (ta : TE) : TE := fun σ H Q => ta σ H fun x H' => match x with
  | .bl k => Q (.bl (!k)) H'
  | .non => Q (.bl true) H'
  | .int i => Q (.bl (!(i != 0))) H'
  | .str y => y.length ≤ sizeLine ∧ Q (.bl (!((y.length : Int) != 0))) H'
  | .ref p => seqTru K p H' fun k H2 => Q (.bl (!k)) H2
  | _ => False
theorem we_not (hK : X.K = K) (ha : PE X a ta) : PE X (.UnaryOp .Not a pos) (wNot K ta) := by
  subst hK
  intro pins s σ H Q I h
  refine UnaryOp_ (thn (ha pins s σ H _ I h) fun v s1 ⟨x, H1, I1, r1, q1⟩ => ?_)
  have go : (∃ k, TruV X.K x H1 k ∧ Q (.bl (!k)) H1) → wpAny (model X.prog X.w) X.A (unaryOp .Not v) (EP X pins σ Q) X.xe s1 := fun h =>
    not_of (thn (tru_ok pins s1 σ H1 x v (fun k H2 => Q (.bl (!k)) H2) I1 r1 h) fun k s2 ⟨H2, I2, q2⟩ => ⟨.bl (!k), H2, I2, rfl, q2⟩)
  cases x with
  | bl k => exact go ⟨k, rfl, q1⟩
  | non => exact go ⟨false, rfl, q1⟩
  | int i => exact go ⟨_, rfl, q1⟩
  | str y => exact go ⟨_, ⟨q1.1, rfl⟩, q1.2⟩
  | ref p =>
    rcases q1 with ⟨xs, hq | hq, q⟩ | ⟨kvs, hq, q⟩
    · exact go ⟨_, .inl ⟨xs, hq, rfl⟩, q⟩
    · exact go ⟨_, .inr (.inl ⟨xs, hq, rfl⟩), q⟩
    · exact go ⟨_, .inr (.inr ⟨kvs, hq, rfl⟩), q⟩
  | _ => exact False.elim q1
def wIfE (t : TT) (ta tb : TE) : TE := fun σ H Q => t σ H fun c H1 => ifB c (ta σ H1 Q) (tb σ H1 Q)
theorem we_if (hc : PT X c tA) (ha : PE X a ta) (hb : PE X b tb) : PE X (.IfExp c a b pos) (wIfE tA ta tb) := pe_ifExp hc ha hb
def wIfS (c : TT) (t u : TS) : TS := fun D σ H => c σ H fun b H1 => ifB b (t D σ H1) (u D σ H1)
theorem ws_if {t u : TS} {p q : List Stmt} (hc : PT X c tA) (ha : PSs X p t) (hb : PSs X q u) : PS X (.If c p q pos) (wIfS tA t u) := ps_if hc ha hb

/-! slices -/
def slSeq (K : PySem.W.Frag) (p : Addr) (lo hi : Option Int) (H : Hp) (Q : VK) : Prop := (∃ xs, SqL K H p xs ∧ ∀ l, H l = none → Q (.ref l) (upd H l (.lst (cutV xs lo hi)))) ∨
  ∃ xs, SqT K H p xs ∧ ¬ (HT.sIx xs.length 0 lo = 0 ∧ HT.sIx xs.length xs.length hi = xs.length) ∧ ∀ l, H l = none → Q (.ref l) (upd H l (.tup (cutV xs lo hi)))
def wSl (K : PySem.W.Frag) : V → Option Int → Option Int → Hp → VK → Prop := fun x lo hi H Q => match x with | .ref p => slSeq K p lo hi H Q | _ => False
def wPart (t : TE) : TO := fun σ H Q => t σ H fun x H1 => match x with | .int i => Q (some i) H1 | _ => False
/-! methods of the built-in values -/
def wRecv (K : PySem.W.Frag) (T : String) (x : V) (H : Hp) (P : Prop) : Prop := match x with
  | .str _ => T = "str" ∧ P
  | .int _ => T = "int" ∧ P
  | .ref _ => tyV K T x H ∧ P
  | _ => False
def wBM (K : PySem.W.Frag) (T : String) (r : V → List V → Hp → VK → Prop) (to : TE) (t : TA) : TE := fun σ H Q => to σ H fun x H1 => wRecv K T x H1 (t σ H1 fun xs H2 => r x xs H2 Q)
end
section
variable {X : Cx} {K : PySem.W.Frag} {o e : Expr} {es : List Expr} {to : TE} {t : TA} {name : Str} {apos cpos : Pos} {T id : String} {r : V → List V → Hp → VK → Prop}
theorem wRecv_is {x : V} {H : Hp} {P : Prop} (h : wRecv K T x H P) : tyV K T x H ∧ P := by
  cases x with
  | str z => exact h
  | int i => exact h
  | ref p => exact h
  | _ => exact False.elim h
/-- a reading is monotone in its end when a rule holds of it: not needed here -/
theorem we_bm (hK : X.K = K) (pa : PlainAttrs T) (slot : Slot T name id) (hty : typeOf (.builtin id) = pure (.type "method_descriptor")) (hm : MtR X id r) (ho : PE X o to) (ha : PA X (e :: es) t)
    (hb : notCall0 o = true := by rfl) (hp : plainAll (e :: es) = true := by rfl) (hl : (e :: es).length < 29 := by decide) (hline : (apos.endLine == cpos.line) = true := by rfl) :
    PE X (.Call (.Attribute o name apos) (e :: es) [] cpos) (wBM K T r to t) := by
  subst hK
  have h' : (notStar e && plainAll es) = true := hp
  rw [Bool.and_eq_true] at h'
  have hs : starEach (e :: es) X.env = (false, eval e X.env) :: starEach es X.env := starEach_c h'.1
  have hplain : (backTo cpos (starEach es X.env)).any (·.1) = false := plain_any h'.2
  have hfew : ((backTo cpos (starEach (e :: es) X.env)).all (fun x => !x.1) && (backToKw cpos (keywordEach [] X.env)).all (fun x => x.1.isSome)
      && decide ((e :: es).length + ([] : List Keyword).length + (if ([] : List Keyword).isEmpty then 0 else 1) < 30)) = true := by
    rw [plain_all hp, arm_keywordEach_nil]
    show (true && true && decide ((e :: es).length + 0 + 0 < 30)) = true
    rw [decide_eq_true (by omega)]; rfl
  intro pins s σ H Q I h
  refine wpAny_Call_method_late (base_c hb) hfew hline rfl (thn (ho pins s σ H _ I h) fun v s1 ⟨x, H1, I1, r1, q1⟩ => ?_)
  obtain ⟨ty, q1⟩ := wRecv_is q1
  obtain ⟨h1, h2⟩ := tyV_is I1 r1 ty
  refine ⟨T, id, pa, slot, hty, h1, h2, ?_⟩
  have hA := ha cpos pins s1 σ H1 _ I1 q1
  rw [hs] at hA ⊢
  refine Calls.callWith_builtin (by show (false || (backTo cpos (starEach es X.env)).any (·.1)) = false; rw [hplain] <;> rfl) (Calls.evalArgs_plain ?_)
  exact thn hA fun us s2 ⟨vs, H2, I2, r2, q2⟩ => hm pins s2 σ H2 x vs v us Q I2 r1 r2 q2
def wBM0 (K : PySem.W.Frag) (T : String) (r : V → List V → Hp → VK → Prop) (to : TE) : TE := fun σ H Q => to σ H fun x H1 => wRecv K T x H1 (r x [] H1 Q)
theorem we_bm0 (hK : X.K = K) (pa : PlainAttrs T) (slot : Slot T name id) (hty : typeOf (.builtin id) = pure (.type "method_descriptor")) (hm : MtR X id r) (ho : PE X o to)
    (hb : notCall0 o = true := by rfl) (hline : (apos.endLine == cpos.line) = true := by rfl) : PE X (.Call (.Attribute o name apos) [] [] cpos) (wBM0 K T r to) := by
  subst hK
  intro pins s σ H Q I h
  refine wpAny_Call_method0_late (base_c hb) hline (thn (ho pins s σ H _ I h) fun v s1 ⟨x, H1, I1, r1, q1⟩ => ?_)
  obtain ⟨ty, q1⟩ := wRecv_is q1
  obtain ⟨h1, h2⟩ := tyV_is I1 r1 ty
  exact ⟨T, id, pa, slot, hty, h1, h2, Calls.callWith_builtin rfl (PySem.evalArgs_none (hm pins s1 σ H1 x [] v [] Q I1 r1 .nil q1))⟩
def findV (z y : Str) : Int := match Builtin.Str.occurrences z y 0 z.length 1 with | i :: _ => (i : Int) | [] => -1
def wFind : V → List V → Hp → VK → Prop := fun x xs H Q => match x, xs with | .str z, [.str y] => Q (.int (findV z y)) H | _, _ => False
def joinL (K : PySem.W.Frag) (z : Str) (a : Addr) (H : Hp) (Q : VK) : Prop := ∃ ts : List Str, SqL K H a (ts.map V.str) ∧ (ts.toArray.foldl (· + ·.length + z.length) 0) ≤ sizeLine ∧ (Builtin.Str.glued z ts).length ≤ sizeLine ∧ Q (.str (Builtin.Str.glued z ts)) H
def wJoin (K : PySem.W.Frag) : V → List V → Hp → VK → Prop := fun x xs H Q => match x, xs with | .str z, [.ref a] => joinL K z a H Q | _, _ => False
def wBits : V → List V → Hp → VK → Prop := fun x xs H Q => match x, xs with | .int i, [] => Q (.int (Builtin.Int.intBits i)) H | _, _ => False
def appL (a : Addr) (y : V) (H : Hp) (Q : VK) : Prop := ∃ xs, H a = some (.lst xs) ∧ xs.length < sizeLine ∧ Q .non (upd H a (.lst (xs ++ [y])))
def wAppend : V → List V → Hp → VK → Prop := fun x xs H Q => match x, xs with | .ref a, [y] => appL a y H Q | _, _ => False
theorem w_append : MtR X "list.append" wAppend := by
  intro pins s σ H x xs v us Q I rx rs h
  match x, xs, h with
  | .ref a, [y], h =>
    obtain ⟨ys, h1, h2, h3⟩ := h
    exact mt_append pins s σ H _ _ v us Q I rx rs ⟨a, ys, y, rfl, rfl, h1, h2, h3⟩
/-! all, list(..), tuple(..) -/
def allL (K : PySem.W.Frag) (a : Addr) (H : Hp) (Q : VK) : Prop := ∃ bs : List Bool, SqL K H a (List.map V.bl bs) ∧ Q (.bl (bs.all _root_.id)) H
def wAll (K : PySem.W.Frag) : List V → Hp → VK → Prop := fun xs H Q => match xs with | [.ref a] => allL K a H Q | _ => False
def listL (K : PySem.W.Frag) (p : Addr) (H : Hp) (Q : VK) : Prop := ∃ ys, (SqL K H p ys ∨ SqT K H p ys) ∧ ∀ l, H l = none → Q (.ref l) (upd H l (.lst ys))
def wList (K : PySem.W.Frag) : List V → Hp → VK → Prop := fun xs H Q => match xs with | [.ref a] => listL K a H Q | _ => False
def tupL (K : PySem.W.Frag) (p : Addr) (H : Hp) (Q : VK) : Prop := ∃ ys, (SqL K H p ys ∧ ∀ l, H l = none → Q (.ref l) (upd H l (.tup ys))) ∨ (SqT K H p ys ∧ Q (.ref p) H)
def wTuple (K : PySem.W.Frag) : List V → Hp → VK → Prop := fun xs H Q => match xs with | [.ref a] => tupL K a H Q | _ => False
theorem w_tuple (hK : X.K = K) : CallR X (.type "tuple") (wTuple K) := (call_tupleK hK).imp fun xs H Q h => by
  match xs, h with
  | [.ref a], h => obtain ⟨ys, h1⟩ := h; exact ⟨a, ys, rfl, h1⟩

/-! iterables -/
def itSeq (K : PySem.W.Frag) (p : Addr) (H : Hp) (R : It → Hp → Prop) : Prop := (∃ xs, SqL K H p xs ∧ R (Itl K p) H) ∨ ∃ xs, SqT K H p xs ∧ R (Itt K p) H
def wSeq (K : PySem.W.Frag) (te : TE) : TI := fun σ H R => te σ H fun x H1 => match x with | .str z => R (Its z) H1 | .ref p => itSeq K p H1 R | _ => False
end
section
variable {X : Cx} {tg : Expr}
def wRng1 (ta : TA) : TI := fun σ H R => ta σ H fun vs H1 => match vs with | [.int j] => (-4611686018427387904 ≤ j ∧ j < 4611686018427387904) ∧ R (Itr 0 j.toNat) H1 | _ => False
def wRng2 (ta : TA) : TI := fun σ H R => ta σ H fun vs H1 => match vs with | [.int i, .int j] => (-4611686018427387904 ≤ i ∧ i < 4611686018427387904 ∧ -4611686018427387904 ≤ j ∧ j < 4611686018427387904) ∧ R (Itr i (j - i).toNat) H1 | _ => False
theorem wi_range1 {a : Expr} {ta : TA} {p pos : Pos} (hg : Gl X "range") (hm : X.mg "range" = none) (ha : PA X [a] ta) (hs : notStar a = true := by rfl) : PI X tg (.Call (.Name "range" p) [a] [] pos) (wRng1 ta) := by
  intro pins s σ H R I h
  refine Call_ (ld_blt I hg hm boot_range (PyProof.Rows.callWith_type1 (thn (ha pos pins s σ H _ I h) fun us s1 ⟨vs, H1, I1, r1, q1⟩ => ?_) (starEach_c hs) rfl))
  match vs, q1 with
  | [.int j], q1 =>
    cases r1 with
    | cons r rr =>
      cases rr
      obtain ⟨t, rfl⟩ := r
      have h1 : -4611686018427387904 ≤ j := q1.1.1
      have h2 : j < 4611686018427387904 := q1.1.2
      exact call_range_1 (range_it I1 (by omega) (by omega) (by omega) (by omega) (by simpa using q1.2))
/-! stores -/
def setL (p : Addr) (k : Int) (v : V) (H : Hp) (Q : Hp → Prop) : Prop := ∃ xs j, H p = some (.lst xs) ∧ ixN xs.length k = some j ∧ Q (upd H p (.lst (xs.set j v)))
def wSet : V → V → V → Hp → (Hp → Prop) → Prop := fun o i v H Q => match o, i with | .ref p, .int k => setL p k v H Q | _, _ => False
theorem w_set : PSet X wSet := by
  intro pins s σ H o i v ov iv u Q I ro ri rv h
  match o, i, h with
  | .ref p, .int k, h =>
    obtain ⟨xs, j, h1, h2, h3⟩ := h
    exact set_list pins s σ H _ _ v ov iv u Q I ro ri rv ⟨p, xs, k, j, rfl, rfl, h1, h2, h3⟩
/-- (a, b, ..) = a tuple -/
def unpT (K : PySem.W.Frag) (n : Nat) (a : Addr) (H : Hp) (P : List V → Prop) : Prop := ∃ xs, SqT K H a xs ∧ xs.length = n ∧ P xs
def wTup (K : PySem.W.Frag) (n : Nat) (t : TGs) : TG := fun v σ H Q => match v with | .ref a => unpT K n a H fun xs => t xs σ H Q | _ => False
def wgCons (t : TG) (u : TGs) : TGs := fun vs σ H Q => match vs with | v :: r => t v σ H fun σ' H' => u r σ' H' Q | [] => False
def wgNil : TGs := fun vs σ H Q => match vs with | [] => Q σ H | _ => False
end

/-! ### loops and comprehensions -/
def wComp (pk : List (Option Nat)) (wi : TI) (g : TG) (tt : TT) (te : TE) : TE := fun σ H Q => wi σ H fun J H1 => cmpW J pk g tt te σ H1 Q
def wFor (wi : TI) (g : TG) (tb : TS) : TS := fun D σ H => wi σ H fun J H1 => forW J g tb D σ H1
section
variable {X : Cx} {scope : Scope} {N' : List Str} {pk : List (Option Nat)} {tg elt iter : Expr} {ifs : List Expr} {pos : Pos} {wi : TI} {g : TG} {tt : TT} {te : TE}
def notSet : Expr → Bool
  | .Set _ _ _ => false
  | _ => true
theorem foldedSet_c {e : Expr} {env : Env} (h : notSet e = true) (x : Value) : foldedSetIterable e env x = pure x := by
  unfold foldedSetIterable
  cases e <;> first | rfl | cases h
theorem we_comp (hc : X.calm = true) (S : CompScope X scope N' pk) (hi : PI X tg iter wi) (hg : ∀ C s H ex, PG (compCx X scope N' C s H ex) tg g) (ht : ∀ C s H ex, PTs (compCx X scope N' C s H ex) ifs tt)
    (he : ∀ C s H ex, PE (compCx X scope N' C s H ex) elt te) (hs : notSet iter = true := by rfl) : PE X (.ListComp elt [⟨tg, iter, ifs, 0⟩] scope pos) (wComp pk wi g tt te) :=
  pe_comp hc S hi hg ht he (foldedSet_c hs)
theorem ws_for {body : List Stmt} {tb : TS} (hp : PassesOwn (model X.prog X.w) X.A X.env X.xe) (hc : X.calm = true) (hi : PI X tg iter wi) (hg : PG X tg g) (hb : PSs X body tb)
    (hs : notSet iter = true := by rfl) : PS X (.For tg iter body [] pos) (wFor wi g tb) := ps_for hp hc hi hg hb (foldedSet_c hs)
end
/-! ### while -/
def wWhile (c : TT) (tb : TS) : TS := fun D σ H => ∃ W : Nat → St → Hp → Prop, (∃ m, W m σ H) ∧ ∀ m σ H, W m σ H →
  c σ H fun b H1 => ifB b (∃ N : St → Hp → Prop, (∀ σ' H', N σ' H' → ∃ m', m' < m ∧ W m' σ' H') ∧ tb { D with nx := N, ct := N, bk := D.nx } σ H1) (D.nx σ H1)
theorem ws_while {X : Cx} {pos : Pos} {c : Expr} {body : List Stmt} {tc : TT} {tb : TS} (hp : PassesOwn (model X.prog X.w) X.A X.env X.xe) (hc : PT X c tc) (hb : PSs X body tb) : PS X (.While c body [] pos) (wWhile tc tb) := ps_while hp hc hb
/-! ### a statement whose ways meet behind it -/
def tCut (t u : TS) : TS := fun D σ H => ∃ M : St → Hp → Prop, t { D with nx := M } σ H ∧ ∀ σ' H', M σ' H' → u D σ' H'
theorem pss_cut {X : Cx} {st : Stmt} {rest : List Stmt} {t u : TS} (h1 : PS X st t) (h2 : PSs X rest u) : PSs X (st :: rest) (tCut t u) := by
  intro pins s σ H D I h
  obtain ⟨M, ht, hM⟩ := h
  refine wpAny_execs_cons (thn (h1 pins s σ H { D with nx := M } I ht) fun f s1 q => ?_)
  cases f with
  | next =>
    obtain ⟨σ', H', I', q⟩ := q
    exact h2 pins s1 σ' H' D I' (hM σ' H' q)
  | ret v => exact q
  | brk => exact q
  | cont => exact q
theorem cutI {t u : TS} {D : Ends} {σ : St} {H : Hp} (M : St → Hp → Prop) (h1 : t { D with nx := M } σ H) (h2 : ∀ σ' H', M σ' H' → u D σ' H') : tCut t u D σ H := ⟨M, h1, h2⟩
/-! ### how the stops are passed -/
section
variable {K : PySem.W.Frag} {H : Hp} {p q : Addr} {xs ys : List V} {Q : VK}
theorem seqLenL (h : SqL K H p ys) (g : Q (.int ys.length) H) : seqLen K p H Q := ⟨ys, .inl h, g⟩
theorem seqAtL {i : Int} {v : V} (h : SqL K H p xs) (e : atI xs i = some v) (g : Q v H) : seqAt K p i H Q := ⟨xs, .inl h, v, e, g⟩
theorem appLI {y : V} (h : H p = some (.lst xs)) (hz : xs.length < sizeLine) (g : Q .non (upd H p (.lst (xs ++ [y])))) : appL p y H Q := ⟨xs, h, hz, g⟩
theorem tupLL (h : SqL K H p ys) (g : ∀ l, H l = none → Q (.ref l) (upd H l (.tup ys))) : tupL K p H Q := ⟨ys, .inl ⟨h, g⟩⟩
theorem setLI {k : Int} {j : Nat} {v : V} {R : Hp → Prop} (h : H p = some (.lst xs)) (hj : ixN xs.length k = some j) (g : R (upd H p (.lst (xs.set j v)))) : setL p k v H R := ⟨xs, j, h, hj, g⟩
end
theorem cmul_l {i j : Int} (h1 : -18446744073709551616 < i) (h2 : i < 18446744073709551616) : CMul i j := .inl ⟨h1, h2⟩
theorem cmul_r {i j : Int} (h1 : -18446744073709551616 < j) (h2 : j < 18446744073709551616) : CMul i j := .inr ⟨h1, h2⟩
theorem cdivI {i j : Int} (h1 : 0 < j) (h2 : j < 1073741824) : CDiv i j := ⟨h1, h2⟩
theorem cpowI {i j : Int} (h1 : 0 ≤ j) (h2 : j ≤ 1000000) (h3 : i.natAbs < 18446744073709551616) : CPow i j := ⟨h1, h2, h3⟩
/-! ### draws: the same in every law -/
def mcell (ns : List Int) (k : Int) : Int := if 0 < ns.length then ns.getD (k % (ns.length : Int)).toNat 0 % 2147483629 else 0
def mdraw (ns : List Int) (k many : Int) : Int := (mcell ns k + 1) * (31 * k * k + 7919) % 2147483647 * 48271 % 2147483629 % many
/-- the script: a list of at most 63 ints -/
def Scr (K : PySem.W.Frag) (H : Hp) (a : Addr) (ns : List Int) : Prop := SqL K H a (ns.map V.int) ∧ ns.length ≤ 63
def spDraw (K : PySem.W.Frag) : Sp := fun vs H Q _ => ∃ a ns k many, vs = [.ref a, .int k, .int many] ∧ Scr K H a ns ∧ 0 ≤ k ∧ k < 1000 ∧ 0 < many ∧ Q (.int (mdraw ns k many)) H
end L2

set_option Elab.async false
set_option linter.all false
set_option maxRecDepth 100000
set_option maxHeartbeats 1000000
namespace L2
open PySem PySem.Spec PyProof.Rows
/-! ### list(reversed(xs)) -/
section
variable {prog : Program} {w : World} {A : Around} {E : Value → Shared → Prop} {s : Shared}
def RevAt (items : Array Value) (i : Nat) (v : Value) : Prop := items[items.size - 1 - i]? = some v
end
def revL (K : PySem.W.Frag) (a : Addr) (H : Hp) (Q : VK) : Prop := ∃ xs, SqL K H a xs ∧ ∀ l, H l = none → Q (.ref l) (upd H l (.lst xs.reverse))
def wRev (K : PySem.W.Frag) (te : TE) : TE := fun σ H Q => te σ H fun x H1 => match x with | .ref a => revL K a H1 Q | _ => False
end L2

set_option Elab.async false
set_option linter.all false
set_option maxRecDepth 100000
set_option maxHeartbeats 1000000
namespace L2
open PySem PySem.Spec PyProof.Rows
/-! ### data: what a value is worth, however it lies -/
inductive D where
  | non | bl (b : Bool) | int (i : Int) | str (x : Str) | lst (ds : List D) | tup (ds : List D)
mutual
def eqD : D → D → Bool
  | .non, .non => true
  | .bl a, .bl b => a == b
  | .bl a, .int b => (if a then 1 else 0) == b
  | .int a, .bl b => a == (if b then 1 else 0)
  | .int a, .int b => a == b
  | .str a, .str b => a == b
  | .lst xs, .lst ys => eqDs xs ys
  | .tup xs, .tup ys => eqDs xs ys
  | _, _ => false
def eqDs : List D → List D → Bool
  | [], [] => true
  | x :: xs, y :: ys => eqD x y && eqDs xs ys
  | _, _ => false
end
mutual
theorem eqD_refl : ∀ d : D, eqD d d = true
  | .non => rfl
  | .bl a => by simp [eqD]
  | .int a => by simp [eqD]
  | .str a => by simp [eqD]
  | .lst xs => by rw [eqD]; exact eqDs_refl xs
  | .tup xs => by rw [eqD]; exact eqDs_refl xs
theorem eqDs_refl : ∀ ds : List D, eqDs ds ds = true
  | [] => rfl
  | d :: ds => by rw [eqDs, eqD_refl d, eqDs_refl ds]; rfl
end
theorem eqDs_len : ∀ {xs ys : List D}, xs.length ≠ ys.length → eqDs xs ys = false
  | [], [], h => absurd rfl h
  | [], _ :: _, _ => by simp [eqDs]
  | _ :: _, [], _ => by simp [eqDs]
  | x :: xs, y :: ys, h => by
    rw [eqDs, eqDs_len (xs := xs) (ys := ys) (by simpa using h), Bool.and_false]
theorem eqDs_all : ∀ {xs ys : List D}, xs.length = ys.length → ((List.range xs.length).all fun j => eqD (xs.getD j .non) (ys.getD j .non)) = eqDs xs ys
  | [], [], _ => rfl
  | [], _ :: _, h => by simp at h
  | _ :: _, [], h => by simp at h
  | x :: xs, y :: ys, h => by
    have ih := eqDs_all (xs := xs) (ys := ys) (by simpa using h)
    rw [eqDs, ← ih, List.length_cons, List.range_succ_eq_map, List.all_cons, List.all_map]
    rfl
inductive Den (K : PySem.W.Frag) (H : Hp) : V → D → Prop
  | non : Den K H .non .non
  | bl (b : Bool) : Den K H (.bl b) (.bl b)
  | int (i : Int) : Den K H (.int i) (.int i)
  | str (x : Str) : Den K H (.str x) (.str x)
  | lst {a : Addr} {xs : List V} {ds : List D} (h : SqL K H a xs) (hl : xs.length = ds.length) (hi : ∀ (i : Nat) x d, xs[i]? = some x → ds[i]? = some d → Den K H x d) : Den K H (.ref a) (.lst ds)
  | tup {a : Addr} {xs : List V} {ds : List D} (h : SqT K H a xs) (hl : xs.length = ds.length) (hi : ∀ (i : Nat) x d, xs[i]? = some x → ds[i]? = some d → Den K H x d) : Den K H (.ref a) (.tup ds)
mutual
def dep : D → Nat
  | .lst ds => deps ds + 1
  | .tup ds => deps ds + 1
  | _ => 0
def deps : List D → Nat
  | [] => 0
  | d :: ds => max (dep d) (deps ds)
end
theorem dep_le : ∀ {ds : List D} {i : Nat} {d : D}, ds[i]? = some d → dep d ≤ deps ds
  | [], _, _, h => by simp at h
  | d :: ds, 0, _, h => by simp at h; subst h; rw [deps]; exact Nat.le_max_left _ _
  | d :: ds, i + 1, e, h => by
    have := dep_le (ds := ds) (i := i) (d := e) (by simpa using h)
    rw [deps]; exact Nat.le_trans this (Nat.le_max_right _ _)
section
variable {X : Cx} {pins : List (Addr × Obj)} {σ : St} {H : Hp} {s : Shared}
theorem not_both {a : Addr} {xs ys : List V} (I : Inv X pins σ H s) (h : SqL X.K H a xs) (h' : SqT X.K H a ys) : False := by
  obtain ⟨its, _, p, _⟩ := I.list h
  obtain ⟨its2, _, p2, _⟩ := I.tuple h'
  obtain ⟨o, e, c, _⟩ := p.isList
  obtain ⟨o', e', c', _⟩ := p2
  rw [e] at e'; cases e'
  rw [c] at c'
  injection c' with c2
  exact absurd c2 (by decide)
theorem Den.inj (I : Inv X pins σ H s) {x : V} {d e : D} (h : Den X.K H x d) (h' : Den X.K H x e) : d = e := by
  induction h generalizing e with
  | non => cases h'; rfl
  | bl b => cases h'; rfl
  | int i => cases h'; rfl
  | str z => cases h'; rfl
  | @lst a xs ds hq hl hi ih =>
    cases h' with
    | @lst _ ys es hq' hl' hi' =>
      have exy := I.list_inj hq hq'
      subst exy
      congr 1
      refine List.ext_getElem (by omega) fun i h1 h2 => ?_
      exact ih i xs[i] _ (by simp) (by simp [h1]) (hi' i xs[i] _ (by simp) (by simp [h2]))
    | tup hq' _ _ => exact (not_both I hq hq').elim
  | @tup a xs ds hq hl hi ih =>
    cases h' with
    | @tup _ ys es hq' hl' hi' =>
      have exy := I.tuple_inj hq hq'
      subst exy
      congr 1
      refine List.ext_getElem (by omega) fun i h1 h2 => ?_
      exact ih i xs[i] _ (by simp) (by simp [h1]) (hi' i xs[i] _ (by simp) (by simp [h2]))
    | lst hq' _ _ => exact (not_both I hq' hq).elim
open PySem.SeqAt in
theorem eqAt_den (I : Inv X pins σ H s) {x : V} {d : D} (h : Den X.K H x d) : ∀ {y : V} {e : D} {u v : Value} {A : Around}, Den X.K H y e → RelV x u → RelV y v → A.units + dep d < cLine → EqAt A s u v (eqD d e) := by
  have flat : ∀ {x y : V} {u v : Value} {A : Around}, flatV x = true → flatV y = true → RelV x u → RelV y v → EqAt A s u v (eqV x y) := fun f1 f2 r1 r2 => eqAt_V r1 r2 f1 f2
  induction h with
  | non =>
    intro y e u v A hy ru rv hu
    cases hy with
    | non => exact flat (x := .non) (y := .non) rfl rfl ru rv
    | bl b => exact flat (x := .non) (y := .bl b) rfl rfl ru rv
    | int i => exact flat (x := .non) (y := .int i) rfl rfl ru rv
    | str z => exact flat (x := .non) (y := .str z) rfl rfl ru rv
    | lst hq _ _ => cases ru; cases rv; obtain ⟨_, _, p, _⟩ := I.list hq; exact EqAt.none_list p.isList (by omega)
    | tup hq _ _ => cases ru; cases rv; obtain ⟨_, _, p, _⟩ := I.tuple hq; exact EqAt.none_tuple p (by omega)
  | bl b =>
    intro y e u v A hy ru rv hu
    cases hy with
    | non => exact flat (x := .bl b) (y := .non) rfl rfl ru rv
    | bl c => exact flat (x := .bl b) (y := .bl c) rfl rfl ru rv
    | int i => exact flat (x := .bl b) (y := .int i) rfl rfl ru rv
    | str z => exact flat (x := .bl b) (y := .str z) rfl rfl ru rv
    | lst hq _ _ => cases ru; cases rv; obtain ⟨_, _, p, _⟩ := I.list hq; exact EqAt.bool_list b p.isList (by omega)
    | tup hq _ _ => cases ru; cases rv; obtain ⟨_, _, p, _⟩ := I.tuple hq; exact EqAt.bool_tuple b p (by omega)
  | int i =>
    intro y e u v A hy ru rv hu
    cases hy with
    | non => exact flat (x := .int i) (y := .non) rfl rfl ru rv
    | bl c => exact flat (x := .int i) (y := .bl c) rfl rfl ru rv
    | int j => exact flat (x := .int i) (y := .int j) rfl rfl ru rv
    | str z => exact flat (x := .int i) (y := .str z) rfl rfl ru rv
    | lst hq _ _ => obtain ⟨t, rfl⟩ := ru; cases rv; obtain ⟨_, _, p, _⟩ := I.list hq; exact EqAt.int_list i t p.isList (by omega)
    | tup hq _ _ => obtain ⟨t, rfl⟩ := ru; cases rv; obtain ⟨_, _, p, _⟩ := I.tuple hq; exact EqAt.int_tuple i t p (by omega)
  | str z =>
    intro y e u v A hy ru rv hu
    cases hy with
    | non => exact flat (x := .str z) (y := .non) rfl rfl ru rv
    | bl c => exact flat (x := .str z) (y := .bl c) rfl rfl ru rv
    | int j => exact flat (x := .str z) (y := .int j) rfl rfl ru rv
    | str z' => exact flat (x := .str z) (y := .str z') rfl rfl ru rv
    | lst hq _ _ => obtain ⟨t, rfl⟩ := ru; cases rv; obtain ⟨_, _, p, _⟩ := I.list hq; exact EqAt.str_list z t p.isList (by omega)
    | tup hq _ _ => obtain ⟨t, rfl⟩ := ru; cases rv; obtain ⟨_, _, p, _⟩ := I.tuple hq; exact EqAt.str_tuple z t p (by omega)
  | @lst a xs ds hq hl hi ih =>
    intro y e u v A hy ru rv hu
    have hd0 : dep (.lst ds) = deps ds + 1 := by rw [dep]
    cases ru
    obtain ⟨its, r1, p1, z1⟩ := I.list hq
    cases hy with
    | non => cases rv; exact EqAt.list_none p1.isList (by omega)
    | bl b => cases rv; exact EqAt.list_bool b p1.isList (by omega)
    | int j => obtain ⟨t, rfl⟩ := rv; exact EqAt.list_int j t p1.isList (by omega)
    | str z => obtain ⟨t, rfl⟩ := rv; exact EqAt.list_str z t p1.isList (by omega)
    | @lst b ys es hq' hl' hi' =>
      cases rv
      by_cases hab : a = b
      · subst hab
        have e := Den.inj I (.lst hq hl hi) (.lst hq' hl' hi')
        rw [← e, eqD_refl]
        exact EqAt.same _
      obtain ⟨its2, r2, p2, z2⟩ := I.list hq'
      rw [eqD]
      have l1 := r1.length
      have l2 := r2.length
      by_cases hlen : ds.length = es.length
      · rw [← eqDs_all hlen]
        have es1 : ds.length = its.toArray.size := by rw [List.size_toArray]; omega
        rw [es1]
        refine EqAt.of_refs hab (RcAt.lists p1.isList p2.isList (by simp only [List.size_toArray]; omega) (by omega) fun j h1 h2 => ?_)
        have j1 : j < xs.length := by rw [List.size_toArray] at h1; omega
        have j2 : j < ys.length := by rw [List.size_toArray] at h2; omega
        obtain ⟨w1, e1, q1⟩ := r1.get (i := j) (x := xs[j]) (by simp)
        obtain ⟨w2, e2, q2⟩ := r2.get (i := j) (x := ys[j]) (by simp)
        have k1 : its.toArray[j] = w1 := by
          have : its[j]? = some its.toArray[j] := by simp
          rw [this] at e1; exact Option.some.inj e1
        have k2 : its2.toArray[j] = w2 := by
          have : its2[j]? = some its2.toArray[j] := by simp
          rw [this] at e2; exact Option.some.inj e2
        rw [k1, k2]
        have d1 : ds[j]? = some (ds.getD j .non) := by simp [List.getD, List.getElem?_eq_getElem (show j < ds.length by omega)]
        have d2 : es[j]? = some (es.getD j .non) := by simp [List.getD, List.getElem?_eq_getElem (show j < es.length by omega)]
        have hdj := dep_le d1
        refine ih j xs[j] _ (by simp) d1 (hi' j ys[j] _ (by simp) d2) q1 q2 ?_
        have : A.in1.units = A.units + 1 := rfl
        omega
      · rw [eqDs_len hlen]
        exact EqAt.of_refs hab (RcAt.lists_lengths p1.isList p2.isList (by simp only [List.size_toArray]; rw [bne_iff_ne]; omega) (by omega))
    | tup hq' _ _ => cases rv; obtain ⟨_, _, p2, _⟩ := I.tuple hq'; exact EqAt.list_tuple p1.isList p2 (by omega)
  | @tup a xs ds hq hl hi ih =>
    intro y e u v A hy ru rv hu
    have hd0 : dep (.tup ds) = deps ds + 1 := by rw [dep]
    cases ru
    obtain ⟨its, r1, p1, z1⟩ := I.tuple hq
    cases hy with
    | non => cases rv; exact EqAt.tuple_none p1 (by omega)
    | bl b => cases rv; exact EqAt.tuple_bool b p1 (by omega)
    | int j => obtain ⟨t, rfl⟩ := rv; exact EqAt.tuple_int j t p1 (by omega)
    | str z => obtain ⟨t, rfl⟩ := rv; exact EqAt.tuple_str z t p1 (by omega)
    | lst hq' _ _ => cases rv; obtain ⟨_, _, p2, _⟩ := I.list hq'; exact EqAt.tuple_list p1 p2.isList (by omega)
    | @tup b ys es hq' hl' hi' =>
      cases rv
      by_cases hab : a = b
      · subst hab
        have e := Den.inj I (.tup hq hl hi) (.tup hq' hl' hi')
        rw [← e, eqD_refl]
        exact EqAt.same _
      obtain ⟨its2, r2, p2, z2⟩ := I.tuple hq'
      rw [eqD]
      have l1 := r1.length
      have l2 := r2.length
      have res : eqDs ds es = ((List.range (min its.toArray.size its2.toArray.size)).all (fun j => eqD (ds.getD j .non) (es.getD j .non)) && its.toArray.size == its2.toArray.size) := by
        by_cases hlen : ds.length = es.length
        · have e1 : its.toArray.size = ds.length := by rw [List.size_toArray]; omega
          have e2 : its2.toArray.size = ds.length := by rw [List.size_toArray]; omega
          rw [e1, e2, Nat.min_self, eqDs_all hlen]; simp
        · rw [eqDs_len hlen]
          have : (its.toArray.size == its2.toArray.size) = false := beq_eq_false_iff_ne.mpr (by simp only [List.size_toArray]; omega)
          rw [this, Bool.and_false]
      rw [res]
      refine EqAt.of_refs hab (RcAt.tuples p1 p2 (by omega) fun j h1 h2 => ?_)
      have j1 : j < xs.length := by rw [List.size_toArray] at h1; omega
      have j2 : j < ys.length := by rw [List.size_toArray] at h2; omega
      obtain ⟨w1, e1, q1⟩ := r1.get (i := j) (x := xs[j]) (by simp)
      obtain ⟨w2, e2, q2⟩ := r2.get (i := j) (x := ys[j]) (by simp)
      have k1 : its.toArray[j] = w1 := by
        have : its[j]? = some its.toArray[j] := by simp
        rw [this] at e1; exact Option.some.inj e1
      have k2 : its2.toArray[j] = w2 := by
        have : its2[j]? = some its2.toArray[j] := by simp
        rw [this] at e2; exact Option.some.inj e2
      rw [k1, k2]
      have d1 : ds[j]? = some (ds.getD j .non) := by simp [List.getD, List.getElem?_eq_getElem (show j < ds.length by omega)]
      have d2 : es[j]? = some (es.getD j .non) := by simp [List.getD, List.getElem?_eq_getElem (show j < es.length by omega)]
      have hdj := dep_le d1
      refine ih j xs[j] _ (by simp) d1 (hi' j ys[j] _ (by simp) d2) q1 q2 ?_
      have : A.in1.units = A.units + 1 := rfl
      omega
end

/-! ### == and != of any data -/
def eqRef (K : PySem.W.Frag) (x y : V) (H : Hp) (P : Bool → Prop) : Prop := ∃ d e, Den K H x d ∧ Den K H y e ∧ dep d ≤ 60 ∧ P (eqD d e)
theorem eqRefI {K : PySem.W.Frag} {x y : V} {H : Hp} {P : Bool → Prop} {d e : D} (h1 : Den K H x d) (h2 : Den K H y e) (hd : dep d ≤ 60) (g : P (eqD d e)) : eqRef K x y H P := ⟨d, e, h1, h2, hd, g⟩
theorem eqRefT {K : PySem.W.Frag} {x y : V} {H : Hp} {P : Bool → Prop} {d : D} (h1 : Den K H x d) (h2 : Den K H y d) (hd : dep d ≤ 60) (g : P true) : eqRef K x y H P := ⟨d, d, h1, h2, hd, by rw [eqD_refl]; exact g⟩
def isRef : V → Bool
  | .ref _ => true
  | _ => false
def wEqA (K : PySem.W.Frag) : R2 := fun x y H Q => match eqS x y with | some b => Q (.bl b) H | none => eqRef K x y H fun b => Q (.bl b) H
def wNeA (K : PySem.W.Frag) : R2 := fun x y H Q => match eqS x y with | some b => Q (.bl (!b)) H | none => eqRef K x y H fun b => Q (.bl (!b)) H
section
variable {X : Cx} {K : PySem.W.Frag} {m : Nat}
theorem units_ok {d : D} (hr : Room m X.A) (hd : dep d ≤ 60) : X.A.units + dep d < cLine := by have := hr.un; omega
open PySem.SeqAt in
theorem w_eqA (hK : X.K = K) (hr : Room m X.A) : OpR X (compareOp .Eq) (wEqA K) := by
  subst hK
  intro pins s σ H x y v u Q I rx ry h
  unfold wEqA at h
  cases e : eqS x y with
  | some b =>
    rw [e] at h
    obtain ⟨h1, h2⟩ := eqS_is e
    exact op_eq pins s σ H x y v u Q I rx ry ⟨h1, by rw [h2]; exact h⟩
  | none =>
    rw [e] at h
    obtain ⟨d, e', h1, h2, hd, q⟩ := h
    have fin : EP X pins σ Q (.bool (eqD d e')) s := ⟨.bl _, H, I, rfl, q⟩
    have hu := units_ok (X := X) hr hd
    have hu0 : X.A.units < cLine := by omega
    -- the comparison itself: as in eqBool, without the look at the identity
    cases h1 with
    | @lst a xs ds hq hl hi =>
      have D1 : Den X.K H (.ref a) (.lst ds) := .lst hq hl hi
      cases rx
      obtain ⟨its, r1, p1, z1⟩ := I.list hq
      cases h2 with
      | non => cases ry; exact RcAt.list_none p1.isList hu0 _ _ _ _ fin
      | bl b => cases ry; exact RcAt.list_bool b p1.isList hu0 _ _ _ _ fin
      | int j => obtain ⟨t, rfl⟩ := ry; exact RcAt.list_int j t p1.isList hu0 _ _ _ _ fin
      | str z => obtain ⟨t, rfl⟩ := ry; exact RcAt.list_str z t p1.isList hu0 _ _ _ _ fin
      | tup hq' _ _ => cases ry; obtain ⟨_, _, p2, _⟩ := I.tuple hq'; exact RcAt.list_tuple p1.isList p2 hu0 _ _ _ _ fin
      | @lst b ys es hq' hl' hi' =>
        cases ry
        obtain ⟨its2, r2, p2, z2⟩ := I.list hq'
        have hd0 : dep (.lst ds) = deps ds + 1 := by rw [dep]
        rw [eqD] at fin
        have l1 := r1.length
        have l2 := r2.length
        by_cases hlen : ds.length = es.length
        · rw [← eqDs_all hlen, show ds.length = its.toArray.size by rw [List.size_toArray]; omega] at fin
          refine RcAt.lists p1.isList p2.isList (by simp only [List.size_toArray]; omega) hu0 (fun j g1 g2 => ?_) _ _ _ _ fin
          have j1 : j < xs.length := by rw [List.size_toArray] at g1; omega
          have j2 : j < ys.length := by rw [List.size_toArray] at g2; omega
          obtain ⟨w1, e1, q1⟩ := r1.get (i := j) (x := xs[j]) (by simp)
          obtain ⟨w2, e2, q2⟩ := r2.get (i := j) (x := ys[j]) (by simp)
          have k1 : its.toArray[j] = w1 := by
            have : its[j]? = some its.toArray[j] := by simp
            rw [this] at e1; exact Option.some.inj e1
          have k2 : its2.toArray[j] = w2 := by
            have : its2[j]? = some its2.toArray[j] := by simp
            rw [this] at e2; exact Option.some.inj e2
          rw [k1, k2]
          have d1 : ds[j]? = some (ds.getD j .non) := by simp [List.getD, List.getElem?_eq_getElem (show j < ds.length by omega)]
          have d2 : es[j]? = some (es.getD j .non) := by simp [List.getD, List.getElem?_eq_getElem (show j < es.length by omega)]
          have hdj := dep_le d1
          refine eqAt_den I (hi j xs[j] _ (by simp) d1) (hi' j ys[j] _ (by simp) d2) q1 q2 ?_
          have : X.A.in1.units = X.A.units + 1 := rfl
          omega
        · rw [eqDs_len hlen] at fin
          exact RcAt.lists_lengths p1.isList p2.isList (by simp only [List.size_toArray]; rw [bne_iff_ne]; omega) hu0 _ _ _ _ fin
    | @tup a xs ds hq hl hi =>
      cases rx
      obtain ⟨its, r1, p1, z1⟩ := I.tuple hq
      cases h2 with
      | non => cases ry; exact RcAt.tuple_none p1 hu0 _ _ _ _ fin
      | bl b => cases ry; exact RcAt.tuple_bool b p1 hu0 _ _ _ _ fin
      | int j => obtain ⟨t, rfl⟩ := ry; exact RcAt.tuple_int j t p1 hu0 _ _ _ _ fin
      | str z => obtain ⟨t, rfl⟩ := ry; exact RcAt.tuple_str z t p1 hu0 _ _ _ _ fin
      | lst hq' _ _ => cases ry; obtain ⟨_, _, p2, _⟩ := I.list hq'; exact RcAt.tuple_list p1 p2.isList hu0 _ _ _ _ fin
      | @tup b ys es hq' hl' hi' =>
        cases ry
        obtain ⟨its2, r2, p2, z2⟩ := I.tuple hq'
        have hd0 : dep (.tup ds) = deps ds + 1 := by rw [dep]
        rw [eqD] at fin
        have l1 := r1.length
        have l2 := r2.length
        have res : eqDs ds es = ((List.range (min its.toArray.size its2.toArray.size)).all (fun j => eqD (ds.getD j .non) (es.getD j .non)) && its.toArray.size == its2.toArray.size) := by
          by_cases hlen : ds.length = es.length
          · have e1 : its.toArray.size = ds.length := by rw [List.size_toArray]; omega
            have e2 : its2.toArray.size = ds.length := by rw [List.size_toArray]; omega
            rw [e1, e2, Nat.min_self, eqDs_all hlen]; simp
          · rw [eqDs_len hlen]
            have : (its.toArray.size == its2.toArray.size) = false := beq_eq_false_iff_ne.mpr (by simp only [List.size_toArray]; omega)
            rw [this, Bool.and_false]
        rw [res] at fin
        refine RcAt.tuples p1 p2 hu0 (fun j g1 g2 => ?_) _ _ _ _ fin
        have j1 : j < xs.length := by rw [List.size_toArray] at g1; omega
        have j2 : j < ys.length := by rw [List.size_toArray] at g2; omega
        obtain ⟨w1, e1, q1⟩ := r1.get (i := j) (x := xs[j]) (by simp)
        obtain ⟨w2, e2, q2⟩ := r2.get (i := j) (x := ys[j]) (by simp)
        have k1 : its.toArray[j] = w1 := by
          have : its[j]? = some its.toArray[j] := by simp
          rw [this] at e1; exact Option.some.inj e1
        have k2 : its2.toArray[j] = w2 := by
          have : its2[j]? = some its2.toArray[j] := by simp
          rw [this] at e2; exact Option.some.inj e2
        rw [k1, k2]
        have d1 : ds[j]? = some (ds.getD j .non) := by simp [List.getD, List.getElem?_eq_getElem (show j < ds.length by omega)]
        have d2 : es[j]? = some (es.getD j .non) := by simp [List.getD, List.getElem?_eq_getElem (show j < es.length by omega)]
        have hdj := dep_le d1
        refine eqAt_den I (hi j xs[j] _ (by simp) d1) (hi' j ys[j] _ (by simp) d2) q1 q2 ?_
        have : X.A.in1.units = X.A.units + 1 := rfl
        omega
    | non => cases h2 with
      | lst hq _ _ => cases rx; cases ry; obtain ⟨_, _, p, _⟩ := I.list hq; exact RcAt.none_list p.isList hu0 _ _ _ _ fin
      | tup hq _ _ => cases rx; cases ry; obtain ⟨_, _, p, _⟩ := I.tuple hq; exact RcAt.none_tuple p hu0 _ _ _ _ fin
      | _ => cases e
    | bl b => cases h2 with
      | lst hq _ _ => cases rx; cases ry; obtain ⟨_, _, p, _⟩ := I.list hq; exact RcAt.bool_list b p.isList hu0 _ _ _ _ fin
      | tup hq _ _ => cases rx; cases ry; obtain ⟨_, _, p, _⟩ := I.tuple hq; exact RcAt.bool_tuple b p hu0 _ _ _ _ fin
      | int j => cases rx; obtain ⟨t, rfl⟩ := ry; exact RcAt.bool_int b j t _ _ _ _ fin
      | _ => cases e
    | int i => cases h2 with
      | lst hq _ _ => obtain ⟨t, rfl⟩ := rx; cases ry; obtain ⟨_, _, p, _⟩ := I.list hq; exact RcAt.int_list i t p.isList hu0 _ _ _ _ fin
      | tup hq _ _ => obtain ⟨t, rfl⟩ := rx; cases ry; obtain ⟨_, _, p, _⟩ := I.tuple hq; exact RcAt.int_tuple i t p hu0 _ _ _ _ fin
      | bl b => obtain ⟨t, rfl⟩ := rx; cases ry; exact RcAt.int_bool i t b _ _ _ _ fin
      | _ => cases e
    | str z => cases h2 with
      | lst hq _ _ => obtain ⟨t, rfl⟩ := rx; cases ry; obtain ⟨_, _, p, _⟩ := I.list hq; exact RcAt.str_list z t p.isList hu0 _ _ _ _ fin
      | tup hq _ _ => obtain ⟨t, rfl⟩ := rx; cases ry; obtain ⟨_, _, p, _⟩ := I.tuple hq; exact RcAt.str_tuple z t p hu0 _ _ _ _ fin
      | _ => cases e
open PySem.SeqAt in
theorem w_neA (hK : X.K = K) (hr : Room m X.A) : OpR X (compareOp .NotEq) (wNeA K) := by
  subst hK
  intro pins s σ H x y v u Q I rx ry h
  unfold wNeA at h
  cases e : eqS x y with
  | some b =>
    rw [e] at h
    obtain ⟨h1, h2⟩ := eqS_is e
    exact op_ne pins s σ H x y v u Q I rx ry ⟨h1, by rw [h2]; exact h⟩
  | none =>
    rw [e] at h
    obtain ⟨d, e', h1, h2, hd, q⟩ := h
    have fin : EP X pins σ Q (.bool (!eqD d e')) s := ⟨.bl _, H, I, rfl, q⟩
    have hu := units_ok (X := X) hr hd
    have hu0 : X.A.units < cLine := by omega
    -- the comparison itself: as in eqBool, without the look at the identity
    cases h1 with
    | @lst a xs ds hq hl hi =>
      have D1 : Den X.K H (.ref a) (.lst ds) := .lst hq hl hi
      cases rx
      obtain ⟨its, r1, p1, z1⟩ := I.list hq
      cases h2 with
      | non => cases ry; exact RcNeAt.list_none p1.isList hu0 _ _ _ _ fin
      | bl b => cases ry; exact RcNeAt.list_bool b p1.isList hu0 _ _ _ _ fin
      | int j => obtain ⟨t, rfl⟩ := ry; exact RcNeAt.list_int j t p1.isList hu0 _ _ _ _ fin
      | str z => obtain ⟨t, rfl⟩ := ry; exact RcNeAt.list_str z t p1.isList hu0 _ _ _ _ fin
      | tup hq' _ _ => cases ry; obtain ⟨_, _, p2, _⟩ := I.tuple hq'; exact RcNeAt.list_tuple p1.isList p2 hu0 _ _ _ _ fin
      | @lst b ys es hq' hl' hi' =>
        cases ry
        obtain ⟨its2, r2, p2, z2⟩ := I.list hq'
        have hd0 : dep (.lst ds) = deps ds + 1 := by rw [dep]
        rw [eqD] at fin
        have l1 := r1.length
        have l2 := r2.length
        by_cases hlen : ds.length = es.length
        · rw [← eqDs_all hlen, show ds.length = its.toArray.size by rw [List.size_toArray]; omega] at fin
          refine RcNeAt.lists p1.isList p2.isList (by simp only [List.size_toArray]; omega) hu0 (fun j g1 g2 => ?_) _ _ _ _ fin
          have j1 : j < xs.length := by rw [List.size_toArray] at g1; omega
          have j2 : j < ys.length := by rw [List.size_toArray] at g2; omega
          obtain ⟨w1, e1, q1⟩ := r1.get (i := j) (x := xs[j]) (by simp)
          obtain ⟨w2, e2, q2⟩ := r2.get (i := j) (x := ys[j]) (by simp)
          have k1 : its.toArray[j] = w1 := by
            have : its[j]? = some its.toArray[j] := by simp
            rw [this] at e1; exact Option.some.inj e1
          have k2 : its2.toArray[j] = w2 := by
            have : its2[j]? = some its2.toArray[j] := by simp
            rw [this] at e2; exact Option.some.inj e2
          rw [k1, k2]
          have d1 : ds[j]? = some (ds.getD j .non) := by simp [List.getD, List.getElem?_eq_getElem (show j < ds.length by omega)]
          have d2 : es[j]? = some (es.getD j .non) := by simp [List.getD, List.getElem?_eq_getElem (show j < es.length by omega)]
          have hdj := dep_le d1
          refine eqAt_den I (hi j xs[j] _ (by simp) d1) (hi' j ys[j] _ (by simp) d2) q1 q2 ?_
          have : X.A.in1.units = X.A.units + 1 := rfl
          omega
        · rw [eqDs_len hlen] at fin
          exact RcNeAt.lists_lengths p1.isList p2.isList (by simp only [List.size_toArray]; rw [bne_iff_ne]; omega) hu0 _ _ _ _ fin
    | @tup a xs ds hq hl hi =>
      cases rx
      obtain ⟨its, r1, p1, z1⟩ := I.tuple hq
      cases h2 with
      | non => cases ry; exact RcNeAt.tuple_none p1 hu0 _ _ _ _ fin
      | bl b => cases ry; exact RcNeAt.tuple_bool b p1 hu0 _ _ _ _ fin
      | int j => obtain ⟨t, rfl⟩ := ry; exact RcNeAt.tuple_int j t p1 hu0 _ _ _ _ fin
      | str z => obtain ⟨t, rfl⟩ := ry; exact RcNeAt.tuple_str z t p1 hu0 _ _ _ _ fin
      | lst hq' _ _ => cases ry; obtain ⟨_, _, p2, _⟩ := I.list hq'; exact RcNeAt.tuple_list p1 p2.isList hu0 _ _ _ _ fin
      | @tup b ys es hq' hl' hi' =>
        cases ry
        obtain ⟨its2, r2, p2, z2⟩ := I.tuple hq'
        have hd0 : dep (.tup ds) = deps ds + 1 := by rw [dep]
        rw [eqD] at fin
        have l1 := r1.length
        have l2 := r2.length
        have res : eqDs ds es = ((List.range (min its.toArray.size its2.toArray.size)).all (fun j => eqD (ds.getD j .non) (es.getD j .non)) && its.toArray.size == its2.toArray.size) := by
          by_cases hlen : ds.length = es.length
          · have e1 : its.toArray.size = ds.length := by rw [List.size_toArray]; omega
            have e2 : its2.toArray.size = ds.length := by rw [List.size_toArray]; omega
            rw [e1, e2, Nat.min_self, eqDs_all hlen]; simp
          · rw [eqDs_len hlen]
            have : (its.toArray.size == its2.toArray.size) = false := beq_eq_false_iff_ne.mpr (by simp only [List.size_toArray]; omega)
            rw [this, Bool.and_false]
        rw [res] at fin
        refine RcNeAt.tuples p1 p2 hu0 (fun j g1 g2 => ?_) _ _ _ _ fin
        have j1 : j < xs.length := by rw [List.size_toArray] at g1; omega
        have j2 : j < ys.length := by rw [List.size_toArray] at g2; omega
        obtain ⟨w1, e1, q1⟩ := r1.get (i := j) (x := xs[j]) (by simp)
        obtain ⟨w2, e2, q2⟩ := r2.get (i := j) (x := ys[j]) (by simp)
        have k1 : its.toArray[j] = w1 := by
          have : its[j]? = some its.toArray[j] := by simp
          rw [this] at e1; exact Option.some.inj e1
        have k2 : its2.toArray[j] = w2 := by
          have : its2[j]? = some its2.toArray[j] := by simp
          rw [this] at e2; exact Option.some.inj e2
        rw [k1, k2]
        have d1 : ds[j]? = some (ds.getD j .non) := by simp [List.getD, List.getElem?_eq_getElem (show j < ds.length by omega)]
        have d2 : es[j]? = some (es.getD j .non) := by simp [List.getD, List.getElem?_eq_getElem (show j < es.length by omega)]
        have hdj := dep_le d1
        refine eqAt_den I (hi j xs[j] _ (by simp) d1) (hi' j ys[j] _ (by simp) d2) q1 q2 ?_
        have : X.A.in1.units = X.A.units + 1 := rfl
        omega
    | non => cases h2 with
      | lst hq _ _ => cases rx; cases ry; obtain ⟨_, _, p, _⟩ := I.list hq; exact RcNeAt.none_list p.isList hu0 _ _ _ _ fin
      | tup hq _ _ => cases rx; cases ry; obtain ⟨_, _, p, _⟩ := I.tuple hq; exact RcNeAt.none_tuple p hu0 _ _ _ _ fin
      | _ => cases e
    | bl b => cases h2 with
      | lst hq _ _ => cases rx; cases ry; obtain ⟨_, _, p, _⟩ := I.list hq; exact RcNeAt.bool_list b p.isList hu0 _ _ _ _ fin
      | tup hq _ _ => cases rx; cases ry; obtain ⟨_, _, p, _⟩ := I.tuple hq; exact RcNeAt.bool_tuple b p hu0 _ _ _ _ fin
      | int j => cases rx; obtain ⟨t, rfl⟩ := ry; exact RcNeAt.bool_int b j t _ _ _ _ fin
      | _ => cases e
    | int i => cases h2 with
      | lst hq _ _ => obtain ⟨t, rfl⟩ := rx; cases ry; obtain ⟨_, _, p, _⟩ := I.list hq; exact RcNeAt.int_list i t p.isList hu0 _ _ _ _ fin
      | tup hq _ _ => obtain ⟨t, rfl⟩ := rx; cases ry; obtain ⟨_, _, p, _⟩ := I.tuple hq; exact RcNeAt.int_tuple i t p hu0 _ _ _ _ fin
      | bl b => obtain ⟨t, rfl⟩ := rx; cases ry; exact RcNeAt.int_bool i t b _ _ _ _ fin
      | _ => cases e
    | str z => cases h2 with
      | lst hq _ _ => obtain ⟨t, rfl⟩ := rx; cases ry; obtain ⟨_, _, p, _⟩ := I.list hq; exact RcNeAt.str_list z t p.isList hu0 _ _ _ _ fin
      | tup hq _ _ => obtain ⟨t, rfl⟩ := rx; cases ry; obtain ⟨_, _, p, _⟩ := I.tuple hq; exact RcNeAt.str_tuple z t p hu0 _ _ _ _ fin
      | _ => cases e
end
end L2

set_option Elab.async false
set_option linter.all false
set_option maxRecDepth 100000
set_option maxHeartbeats 1000000
namespace L2
open PySem PySem.Spec PyProof.Rows

/-! ### an exception's object and its topmost traceback entry -/
structure XAt (h : Heap) (a T : Addr) (cls : Value) (dd : Option Addr) (fl : Value) : Prop where
  ex : ∃ oe vs oT ts, h.get? a = some oe ∧ oe.cls = cls ∧ oe.dict = dd ∧ oe.data = .fields vs ∧ vs[1]? = some (.ref T) ∧ vs[2]? = some .none ∧ T ≠ a ∧ h.get? T = some oT ∧ oT.data = .fields ts ∧ ts[3]? = some fl
/-- what passing a frame may change: the slots of the frames that run, the exception, its topmost entry -/
structure Pass (fs : List Addr) (ch : List Addr) (h h' : Heap) : Prop where
  keep : ∀ b o, b ∉ ch → b ∉ fs → h.get? b = some o → h'.get? b = some o
  slot : ∀ b o, b ∉ ch → h.get? b = some o → ∃ sl, h'.get? b = some { o with slots := sl }
theorem mapF_eq {o : Obj} {vs : Array Value} (hd : o.data = .fields vs) (f : Array Value → Array Value) : Obj.mapFields f o = { o with data := .fields (f vs) } := by
  obtain ⟨c, d, dt, sl⟩ := o
  cases hd
  rfl
section
variable {M : Model} {A : Around} {E : Value → Shared → Prop} {s : Shared}
/-- a new entry is laid and hung into the exception -/
theorem entry_new {base : Heap} {env : Env} {outer : List Env} {L e : Addr} {oe : Obj} {vs : Array Value} {head : Value} {hadNext : Bool} {Q : Unit → Shared → Prop}
    (hfr : A.frames = some (env :: outer)) (hl : s.heap.FunFrames base (env :: outer)) (hf : env.frame = some L) (he : s.heap.get? e = some oe) (hd : oe.data = .fields vs) (hsz : 1 < vs.size) (h2 : vs[2]? = some .none)
    (h : ∀ h' T, Pass (frs (env :: outer)) [e] s.heap h' → s.heap.get? T = none → XAt h' e T oe.cls oe.dict (rawInt L) → Q () { s with heap := h' }) :
    wpAny M A (do let a ← frameOf env; let pl ← entryPlaceOf L hadNext; let b ← EntryCells.newEntry head a .none (rawInt L) .none pl; setField (.ref e) 1 b) Q E s := by
  have hene : e ∉ (env :: outer).filterMap (·.frame) := fun hm => by
    obtain ⟨_, o, ho, hnf⟩ := hl.mem hm
    rw [he] at ho; cases ho; exact hnf vs hd
  refine wpAny_bind (wpAny_frameOf_fun hfr hl hf fun h₁ hs₁ => wpAny_bind (wpAny_entryPlaceOf fun pl hpl => ?_))
  unfold EntryCells.newEntry newFields
  refine wpAny_bind (wpAny_newObj_type ?_ (hpl.sizeOk5 _ _ _ _ _))
  have he₁ : h₁.get? e = some oe := (hs₁.2.1 e hene).trans he
  generalize ho : ({ cls := .type "traceback", dict := none, data := .fields ([head, .ref L, .none, rawInt L, .none] ++ (if pl.isEmpty then List.replicate 6 Value.none else pl)).toArray } : Obj) = o
  have hdo : o.data = .fields ([head, .ref L, .none, rawInt L, .none] ++ (if pl.isEmpty then List.replicate 6 Value.none else pl)).toArray := by rw [← ho]
  have hfo : o.isFreed = false := by rw [← ho]; rfl
  have he₂ := Heap.get?_push_of_some (h := h₁) o he₁
  refine wpAny_setField he₂ hd hsz ?_
  have hTe : h₁.objs.size ≠ e := Nat.ne_of_gt (Heap.lt_size he₁)
  have hd₃ := Obj.data_mapFields hd (·.setIfInBounds 1 (Value.ref h₁.objs.size))
  have he₃ := Heap.get?_update_self (Obj.mapFields (·.setIfInBounds 1 (Value.ref h₁.objs.size))) he₂ (Obj.isFreed_of_fields hd₃)
  have hT₃ := (Heap.get?_update_other (h₁.push o) (Obj.mapFields (·.setIfInBounds 1 (Value.ref h₁.objs.size))) (Ne.symm hTe)).trans (Heap.get?_push_size h₁ hfo)
  have keep : ∀ b u, b ≠ e → h₁.get? b = some u → ((h₁.push o).update e (Obj.mapFields (·.setIfInBounds 1 (Value.ref h₁.objs.size)))).get? b = some u := fun b u hbe hb => by
    rw [Heap.get?_update_other _ _ (Ne.symm hbe)]
    exact Heap.get?_push_of_some _ hb
  refine h _ h₁.objs.size ⟨fun b u hb hbf hbo => ?_, fun b u hb hbo => ?_⟩ (Heap.get?_none_of_le (by rw [hs₁.1]; exact Nat.le_refl _)) ⟨_, _, o, _, he₃, ?_, ?_, hd₃, by simp [hsz], by rw [Array.getElem?_setIfInBounds_ne (by decide)]; exact h2, hTe, hT₃, hdo, ?_⟩
  · exact keep b u (fun z => hb (by simp [z])) ((hs₁.2.1 b hbf).trans hbo)
  · obtain ⟨sl, hs⟩ := hs₁.2.2 b u hbo
    exact ⟨sl, keep b _ (fun z => hb (by simp [z])) hs⟩
  · exact Obj.cls_mapFields _ _
  · rw [mapF_eq hd]
  · first | (simp; done) | (rcases hpl with rfl | ⟨_, _, _, _, _, _, _, rfl⟩ <;> simp)
/-- the flight's mark is put -/
theorem flight_put {a T : Addr} {cls fl : Value} {dd : Option Addr} {f : Option Addr} {Q : Unit → Shared → Prop} (x : XAt s.heap a T cls dd fl)
    (h : ∀ h', Pass [] [T] s.heap h' → XAt h' a T cls dd (f.elim .none fun f => rawInt f) → Q () { s with heap := h' }) : wpAny M A (setFlight (.ref a) f) Q E s := by
  obtain ⟨oe, vs, oT, ts, h1, h2, h3, h4, h5, h5', h6, h7, h8, h9⟩ := x.ex
  have hsz : 3 < ts.size := (Array.getElem?_eq_some_iff.mp h9).1
  unfold setFlight
  refine wpAny_bind (wpAny_field h1 h4 h5 ?_)
  rw [if_pos (show (Value.ref T != Value.none) = true from by simp)]
  have other : ∀ b, b ≠ T → ∀ g, (s.heap.update T g).get? b = s.heap.get? b := fun b hb g => Heap.get?_update_other _ _ (Ne.symm hb)
  refine wpAny_setField h7 h8 hsz (h _ ⟨fun b o hb _ hbo => (other b (fun z => hb (by simp [z])) _).trans hbo, fun b o hb hbo => ⟨o.slots, (other b (fun z => hb (by simp [z])) _).trans hbo⟩⟩ ?_)
  exact ⟨oe, vs, _, _, (other a (Ne.symm h6) _).trans h1, h2, h3, h4, h5, h5', h6, Heap.get?_update_self _ h7 (Obj.isFreed_of_fields (Obj.data_mapFields h8 _)), Obj.data_mapFields h8 _, by simp [hsz]⟩
end
end L2

set_option Elab.async false
set_option linter.all false
set_option maxRecDepth 100000
set_option maxHeartbeats 1000000
namespace L2
open PySem PySem.Spec PyProof.Rows

theorem Pass.more {fs fs' ch : List Addr} {h h1 : Heap} (a : Pass fs ch h h1) (hs : ∀ b ∈ fs, b ∈ fs') : Pass fs' ch h h1 := ⟨fun b o hb hf e => a.keep b o hb (fun z => hf (hs b z)) e, a.slot⟩
/-- a record of ours that is not tracked -/
def Nw (X : Cx) (pins : List (Addr × Obj)) (H : Hp) (b : Addr) : Prop := H b = none ∧ b ≠ X.env.locals ∧ b ∉ X.fs ∧ (b ∈ X.ex ∨ X.s₀.heap.get? b = none) ∧ (∀ x c, X.env.cells.lookup x = some c → c ≠ b) ∧ ∀ p ∈ X.pn ++ pins, p.1 ≠ b
theorem ObjOk.here {P : Program} {w : World} {H : Hp} {h : Heap} {a : Addr} {o : HO} (x : ObjOk P w H h a o) : ∃ u, h.get? a = some u := by
  cases o with
  | lst xs => obtain ⟨_, _, _, _, e⟩ := x; exact ⟨_, e⟩
  | tup xs => obtain ⟨_, _, _, o, e, _⟩ := x; exact ⟨_, e⟩
  | dK kvs => obtain ⟨_, _, _, _, o, _, _, e, _⟩ := x; exact ⟨_, e⟩
  | dT kvs => obtain ⟨_, _, _, _, o, _, _, e, _⟩ := x; exact ⟨_, e⟩
  | set S n => obtain ⟨o, _, _, _, e, _⟩ := x; exact ⟨_, e⟩
  | ins C dx fs => obtain ⟨_, _, _, e, _⟩ := x; exact ⟨_, e⟩
  | own y => obtain ⟨_, e⟩ := x; exact ⟨_, e⟩
  | xd fs => obtain ⟨_, ⟨_, _, _, e, _⟩, _⟩ := x; exact ⟨_, e⟩
  | rng lo hi => obtain ⟨_, _, _, e⟩ := x; exact ⟨_, e⟩
  | frz ob u => obtain ⟨e, _⟩ := x; exact ⟨_, e⟩
  | tbl ps => exact ⟨_, show h.get? a = some _ from x⟩
  | met f y => exact ⟨_, show h.get? a = some _ from x⟩
  | ext φ => obtain ⟨_, e, _⟩ := x; exact e
theorem HOk.none_of {P : Program} {w : World} {H : Hp} {h : Heap} {a : Addr} (x : HOk P w H h) (e : h.get? a = none) : H a = none := by
  cases q : H a with
  | none => rfl
  | some o => obtain ⟨u, z⟩ := (x a o q).here; rw [e] at z; cases z
section
variable {X : Cx} {pins : List (Addr × Obj)} {σ : St} {H : Hp} {s : Shared}
theorem Inv.nw {H' : Hp} {b : Addr} (I : Inv X pins σ H s) (hb : s.heap.get? b = none) (hn : H' b = none) : Nw X pins H' b := by
  refine ⟨hn, fun z => ?_, fun z => ?_, ?_, fun x c e z => ?_, fun p hp z => ?_⟩
  · obtain ⟨m, ⟨o, _, _, ho, _⟩, _⟩ := I.loc
    rw [← z, hb] at ho; cases ho
  · obtain ⟨_, o, ho, _⟩ := I.funs.mem z
    rw [hb] at ho; cases ho
  · by_cases hx : b ∈ X.ex
    · exact .inl hx
    · refine .inr ?_
      cases q : X.s₀.heap.get? b with
      | none => rfl
      | some o => obtain ⟨o', e⟩ := I.base.there b o q hx; rw [hb] at e; cases e
  · obtain ⟨v, o, ho, _⟩ := I.cell x c e
    rw [z, hb] at ho; cases ho
  · have e := (I.pin p hp).1
    rw [z, hb] at e; cases e
/-- the state is as it was when the frames' slots and untracked records of ours have changed -/
theorem Inv.pass {ch : List Addr} {h' : Heap} (I : Inv X pins σ H s) (p : Pass (frs X.stack) ch s.heap h') (hc : ∀ b ∈ ch, Nw X pins H b) : Inv X pins σ H { s with heap := h' } := by
  have nch : ∀ b u, H b = some u → b ∉ ch := fun b u e z => by rw [(hc b z).1] at e; cases e
  have nfr : ∀ b u, H b = some u → b ∉ frs X.stack := fun b u e z => by rw [I.stkFree b z] at e; cases e
  have neC : ∀ b o, X.s₀.heap.get? b = some o → b ∉ X.ex → b ∉ ch := fun b o e hx hb => by
    rcases (hc b hb).2.2.2.1 with z | z
    · exact hx z
    · rw [e] at z; cases z
  have neL : ∀ b o, X.s₀.heap.get? b = some o → b ≠ X.env.locals := fun b o e => Nat.ne_of_lt (Nat.lt_of_lt_of_le (Heap.lt_size e) I.ok.above)
  have nst : ∀ b o, X.s₀.heap.get? b = some o → b ∉ X.fs → b ∉ frs X.stack := fun b o e hb z => by
    rcases List.mem_cons.mp (I.stkSub b z) with q | q
    · exact neL b o e q
    · exact hb q
  have lch : X.env.locals ∉ ch := fun z => (hc _ z).2.1 rfl
  have cch : ∀ x c, X.env.cells.lookup x = some c → c ∉ ch := fun x c e z => (hc c z).2.2.2.2.1 x c e rfl
  have cellK : ∀ x c, X.env.cells.lookup x = some c → ∀ v, s.heap.IsCell c v → h'.IsCell c v := fun x c e v ⟨o, ho, hd⟩ => by
    obtain ⟨sl, q⟩ := p.slot c o (cch x c e) ho
    exact ⟨_, q, hd⟩
  refine ⟨I.ok, I.os, I.bare, ⟨fun b o e n hb hx => ?_, fun b o e n hb hx => ?_, I.base.free, fun b o e hx => ?_, I.base.tups, I.base.frzs, I.base.tbls⟩, ?_, fun x c e => ?_, I.free, I.freeC, fun q hq => ?_, fun b u e => ?_, I.len⟩
  · exact p.keep b o (neC b o e hx) (nst b o e hb) (I.base.keep b o e n hb hx)
  · obtain ⟨sl, e1⟩ := I.base.slot b o e n hb hx
    obtain ⟨sl', e2⟩ := p.slot b _ (neC b o e hx) e1
    exact ⟨sl', e2⟩
  · obtain ⟨o', e1⟩ := I.base.there b o e hx
    obtain ⟨sl', e2⟩ := p.slot b _ (neC b o e hx) e1
    exact ⟨_, e2⟩
  · obtain ⟨m, ⟨o, es, ep, ho, r⟩, hl⟩ := I.loc
    obtain ⟨sl, hL⟩ := p.slot _ o lch ho
    refine ⟨m, ⟨_, es, ep, hL, r⟩, fun i x v e1 e2 e3 => ?_⟩
    obtain ⟨u, rv, l⟩ := hl i x v e1 e2 e3
    refine ⟨u, rv, ?_⟩
    rcases l with l | ⟨k, c, e, z⟩
    · exact .inl l
    · exact .inr ⟨k, c, e, cellK x c e _ z⟩
  · obtain ⟨v, z⟩ := I.cell x c e
    exact ⟨v, cellK x c e v z⟩
  · obtain ⟨e, n, ne, nf, d⟩ := I.pin q hq
    refine ⟨p.keep q.1 q.2 (fun z => (hc _ z).2.2.2.2.2 q hq rfl) (fun z => ?_) e, n, ne, nf, d⟩
    rcases List.mem_cons.mp (I.stkSub _ z) with y | y
    · exact ne y
    · exact nf y
  · refine (I.hok b u e).stay (fun c v hcv q => p.keep c v ?_ ?_ q) (fun _ q => q) fun _ _ q => q
    · rcases hcv with z | z
      · rw [z]; exact nch b u e
      · exact nch c _ z
    · rcases hcv with z | z
      · rw [z]; exact nfr b u e
      · exact nfr c _ z

/-- an exception in a body: just made, or come out of a call, or marked as this frame's -/
def XSt (X : Cx) (pins : List (Addr × Obj)) (H : Hp) (h : Heap) (a : Addr) (cls : Value) (dd : Option Addr) : Prop := Nw X pins H a ∧
  ((∃ oe vs, h.get? a = some oe ∧ oe.cls = cls ∧ oe.dict = dd ∧ oe.data = .fields vs ∧ vs[1]? = some .none ∧ vs[2]? = some .none) ∨ ∃ T fl, XAt h a T cls dd fl ∧ Nw X pins H T ∧ (fl = .none ∨ ∃ L, X.env.frame = some L ∧ fl = rawInt L))

theorem note_any {A : Around} {M : Model} {E : Value → Shared → Prop} {a : Addr} {cls : Value} {dd : Option Addr} {Q : Unit → Shared → Prop} {L : Addr} (I : Inv X pins σ H s) (x : XSt X pins H s.heap a cls dd)
    (hA : A.frames = some X.stack) (hst : X.stack = X.env :: X.outer) (hf : X.env.frame = some L)
    (h : ∀ h' T, Inv X pins σ H { s with heap := h' } → Nw X pins H T → XAt h' a T cls dd (rawInt L) → Q () { s with heap := h' }) : wpAny M A (noteFrame (.ref a) X.env) Q E s := by
  obtain ⟨fa, x⟩ := x
  have hfr : A.frames = some (X.env :: X.outer) := by rw [← hst]; exact hA
  have hl : s.heap.FunFrames X.base (X.env :: X.outer) := by rw [← hst]; exact I.stack
  unfold noteFrame
  simp only [hf]
  rcases x with ⟨oe, vs, h1, h2, h3, h4, h5, h5'⟩ | ⟨T, fl, x, fT, hfl⟩
  · refine wpAny_bind (wpAny_field h1 h4 h5 ?_)
    rw [if_neg (by decide)]
    refine entry_new hfr hl hf h1 h4 (Array.getElem?_eq_some_iff.mp h5).1 h5' fun h' T p hT x => ?_
    rw [← hst] at p
    have J := I.pass p (by simpa using fa)
    exact h h' T J (I.nw hT (I.hok.none_of hT)) (by rw [← h2, ← h3]; exact x)
  · obtain ⟨oe, vs, oT, ts, h1, h2, h3, h4, h5, h5', h6, h7, h8, h9⟩ := id x.ex
    refine wpAny_bind (wpAny_field h1 h4 h5 ?_)
    rw [if_pos (show (Value.ref T != Value.none) = true from by simp)]
    refine wpAny_bind (wpAny_field h7 h8 h9 ?_)
    rcases hfl with rfl | ⟨L', hL', rfl⟩
    · rw [if_neg (show ¬ ((Value.none == rawInt L) = true) from by simp [rawInt])]
      have hsz : 3 < ts.size := (Array.getElem?_eq_some_iff.mp h9).1
      refine wpAny_bind (wpAny_setField h7 h8 hsz ?_)
      have other : ∀ b, b ≠ T → ∀ g, (s.heap.update T g).get? b = s.heap.get? b := fun b hb g => Heap.get?_update_other _ _ (Ne.symm hb)
      have p1 : Pass (frs X.stack) [T] s.heap (s.heap.update T (Obj.mapFields (·.setIfInBounds 3 Value.none))) :=
        ⟨fun b o hb _ hbo => (other b (fun z => hb (by simp [z])) _).trans hbo, fun b o hb hbo => ⟨o.slots, (other b (fun z => hb (by simp [z])) _).trans hbo⟩⟩
      have J1 := I.pass p1 (by simpa using fT)
      refine entry_new (s := { s with heap := s.heap.update T (Obj.mapFields (·.setIfInBounds 3 Value.none)) }) hfr (base := X.base) (by rw [← hst]; exact J1.stack) hf ((other a (Ne.symm h6) _).trans h1) h4 (Array.getElem?_eq_some_iff.mp h5).1 h5' fun h' T' p hT x' => ?_
      rw [← hst] at p
      have J := J1.pass p (by simpa using fa)
      exact h h' T' J (J1.nw hT (J1.hok.none_of hT)) (by rw [← h2, ← h3]; exact x')
    · rw [hf] at hL'; cases hL'
      rw [if_pos (show (rawInt L == rawInt L) = true from by simp)]
      exact wpAny_pure (h s.heap T I fT x)

/-- it leaves the frame -/
theorem leave_any {A : Around} {M : Model} {E : Value → Shared → Prop} {a : Addr} {cls : Value} {dd : Option Addr} {Q : Unit → Shared → Prop} {L : Addr} (I : Inv X pins σ H s) (x : XSt X pins H s.heap a cls dd)
    (hA : A.frames = some X.stack) (hst : X.stack = X.env :: X.outer) (hf : X.env.frame = some L)
    (h : ∀ h' T, Inv X pins σ H { s with heap := h' } → Nw X pins H T → XAt h' a T cls dd .none → Q () { s with heap := h' }) : wpAny M A (leaving X.env (.ref a)) Q E s := by
  unfold leaving
  refine wpAny_bind (note_any I x hA hst hf fun h1 T J fT x1 => flight_put (s := { s with heap := h1 }) x1 fun h2 p x2 => ?_)
  exact h h2 T (J.pass (p.more fun _ z => nomatch z) (by simpa using fT)) fT x2
end

/-! ### behind a call -/
def CXE (P : Program) (w : World) : CXT := fun outer H s E e s' => ∃ (a T : Addr) (cls : Value) (dd : Option Addr) (H' : Hp), e = .ref a ∧ s'.os = s.os ∧ AllBare s'.gens ∧ Un (frs outer) [] H H' s.heap s'.heap ∧ HOk P w H' s'.heap ∧
  s.heap.get? a = none ∧ s.heap.get? T = none ∧ H' a = none ∧ H' T = none ∧ XAt s'.heap a T cls dd .none ∧ E cls dd H'
/-- exceptions of which E holds may leave the code of X -/
def Fl (X : Cx) (E : XK) : Prop := ∀ (pins : List (Addr × Obj)) (σ : St) (H : Hp) (s : Shared) (a : Addr) (cls : Value) (dd : Option Addr), Inv X pins σ H s → XSt X pins H s.heap a cls dd → E cls dd H → X.xe (.ref a) s
theorem Inv.afterE {X : Cx} {pins : List (Addr × Obj)} {σ : St} {H : Hp} {s s' : Shared} {E : XK} {e : Value} (I : Inv X pins σ H s) (h : CXE X.prog X.w X.stack H s E e s') :
    ∃ a cls dd H', e = .ref a ∧ Inv X pins σ H' s' ∧ XSt X pins H' s'.heap a cls dd ∧ E cls dd H' := by
  obtain ⟨a, T, cls, dd, H', rfl, os, bare, un, hok, ha, hT, na, nT, x, q⟩ := h
  refine ⟨a, cls, dd, H', rfl, I.call' os un hok bare (fun b z => nomatch z), ⟨I.nw ha na, .inr ⟨T, _, x, I.nw hT nT, .inl rfl⟩⟩, q⟩
section
variable {P : Program} {w : World} {K : PySem.W.Frag} {mg : Str → Option Value} {base : Heap} {N : List Str} {qual : Str} {scope : Scope} {f : Addr} {cd : Value} {A : Around} {outer : List Env} {s : Shared} {H : Hp} {E : XK}
theorem fl_body : Fl (cxOf (CXE P w) P w K mg base N qual scope f cd A outer s H E) E := by
  intro pins σ H' s' a cls dd I x q
  show wpAny _ _ _ _ _ _
  refine leave_any I x I.ok.frames rfl rfl fun h' T J fT x' => ?_
  have fa := x.1
  refine ⟨a, T, cls, dd, H', rfl, J.os, J.bare, J.base, J.hok, ?_, ?_, fa.1, fT.1, x', q⟩
  · rcases fa.2.2.2.1 with z | z
    · exact absurd (show a ∈ ([] : List Addr) from z) (by simp)
    · exact z
  · rcases fT.2.2.2.1 with z | z
    · exact absurd (show T ∈ ([] : List Addr) from z) (by simp)
    · exact z
end
/-- a def whose exceptions are told -/
theorem Fun.okX {P : Program} {w : World} {K : PySem.W.Frag} {mg : Str → Option Value} {base : Heap} {x qual : Str} {st : Stmt} {f : Addr} {fd : FuncData} {N ps : List Str} {k : Nat} {sp : Sp} (F : Fun K x qual st f fd) (S : FnScope N ps (defScope st)) (len : ∀ vs H Q E, sp vs H Q E → vs.length = ps.length)
    (hbody : ∀ (cdv : Value) (A : Around) (outer : List Env) (s : Shared) (H : Hp) (vs : List V) (Q : VK) (E : XK), Room k (A.deeper (envOfC qual (defScope st) s.heap.objs.size f cdv)) → sp vs H Q E →
      ∃ t, PSs (cxOf (CXE P w) P w K mg base N qual (defScope st) f cdv A outer s H E) (defBody st) t ∧ t { nx := fun _ H' => Q .non H', rt := Q } (start N vs) H) : FnOk P w K mg base (CXE P w) (k + 1) f fd ps sp := by
  obtain ⟨oc, od, kV, doc, pm, an, cdv, ct, osl, rfl, lk, hcd⟩ := F.ex
  exact fn_of lk hcd S len fun A outer s H vs Q E hr hsp => hbody cdv A outer s H vs Q E hr hsp
/-- .. that may be called -/
structure CalX (P : Program) (w : World) (K : PySem.W.Frag) (mg : Str → Option Value) (base : Heap) (n : Nat) (x : Str) (ps : List Str) (sp : Sp) : Prop where
  ex : ∃ f fd, FnOk P w K mg base (CXE P w) n f fd ps sp ∧ Binds K fd ps [] ∧ PySem.W.keepIn K (.ref f) = true ∧ mg x = some (.ref f)
section
variable {X : Cx} {x : Str} {p pos : Pos} {e : Expr} {es : List Expr} {t : TA} {ps : List Str} {sp : Sp} {n m : Nat} {E : XK}
end

/-! ### raise C(..), C an own class without __init__ -/
theorem exc_obj {K : PySem.W.Frag} {h : Heap} {C : Addr} {bmB : List Value} {newId : String} (X : K.In h) (q : PySem.W.excIn K C bmB newId = true) :
    ∃ bm N nm q bs hdct sn sub ab col dd k0 k1 k2 k3 k5 mN, h.get? C = some (excClassObj nm q C N bs bm hdct sn sub ab col dd k0 k1 k2 k3 k5 newId) ∧ h.Ns N mN ∧ mN "__init__" = none ∧ OwnTail h bmB bm := by
  unfold PySem.W.excIn at q
  split at q
  case h_2 => cases q
  case h_1 dd cd sl ho =>
    split at q
    case h_2 => cases q
    case h_1 C' bm k0 k1 k2 k3 n k5 hm hs =>
      simp only [Bool.and_eq_true, beq_iff_eq, Bool.not_eq_true'] at q
      obtain ⟨⟨⟨⟨⟨e1, e2⟩, hdel⟩, ht⟩, hok⟩, hni⟩ := q
      subst e1 e2
      obtain ⟨nm, bs, mro, ns, qn, hd, sn, sub, ab, col, del⟩ := cd
      dsimp only at hm hdel hok hni
      subst hm hdel
      obtain ⟨l⟩ := sl
      simp only at hs
      subst hs
      exact ⟨bm, ns, nm, qn, bs, hd, sn, sub, ab, col, dd, k0, k1, k2, k3, k5, _, X _ _ ho, .of_isNs (PySem.W.isNs_of_in X hok), PySem.W.nsMap_none_of_in X hok hni, PySem.W.tail_of_in X ht⟩
def tRaise (C : Addr) (E : XK) (t : TA) : TS := fun _ σ H => t σ H fun vs H1 => vs.length ≤ sizeLine ∧ E (.ref C) none H1
section
variable {X : Cx} {C : Addr} {bmB : List Value} {B newId initId : String} {x : Str} {np cpos pos : Pos} {e : Expr} {es : List Expr} {t : TA} {E : XK}
theorem Inv.made' {pins : List (Addr × Obj)} {σ : St} {H : Hp} {s : Shared} {h' : Heap} {a : Addr} {vs : List Value} (I : Inv X pins σ H s) (m : Heap.MadeExcOf s.heap h' a (.ref C) vs) :
    Inv X pins σ H { s with heap := h' } ∧ XSt X pins H h' a (.ref C) none := by
  obtain ⟨t, h1, _⟩ := m.there
  exact ⟨I.kept (t' := s.toks) m.keeps, I.nw m.new (I.hok.none_of m.new), .inl ⟨_, _, h1, rfl, rfl, rfl, rfl, rfl⟩⟩
theorem ps_raise (fl : Fl X E) (hc : X.calm = true) (O : PySem.W.excIn X.K C bmB newId = true) (FB : ExcBaseFacts B newId initId bmB) (hg : Gl X x) (hm : X.mg x = some (.ref C)) (ha : PA X (e :: es) t)
    (hp : plainAll (e :: es) = true := by rfl) (hdb : (x == ("__debug__" : Str)) = false := by decide) : PS X (.Raise (some (.Call (.Name x np) (e :: es) [] cpos)) none pos) (tRaise C E t) := by
  intro pins s σ H D I h
  have h' : (notStar e && plainAll es) = true := hp
  rw [Bool.and_eq_true] at h'
  have he := starEach_c (env := X.env) (es := es) h'.1
  have hpl : (backTo cpos (starEach es X.env)).any (·.1) = false := plain_any h'.2
  obtain ⟨bm, N, nm, q, bs, hdct, sn, sub, ab, col, dd, k0, k1, k2, k3, k5, mN, hC, hN, hni, T⟩ := exc_obj I.ok.mod.kin O
  refine wpAny_Raise_call_subT (C := C) (nm := nm) (q := q) (N := N) (bs := bs) (bm := bm) (hdct := hdct) (sn := sn) (sub := sub) (ab := ab) (col := col) (dd := dd) (k0 := k0) (k1 := k1) (k2 := k2) (k3 := k3) (k5 := k5)
    FB (mN := mN) (T.hasType FB.hasBase) (I.ok.hd hc) (by rw [he]; show (false || (backTo cpos (starEach es X.env)).any (·.1)) = false; rw [hpl]; rfl) hni (ld_glob I hg hm ⟨rfl, ?_⟩ hdb)
  have hA := ha cpos pins s σ H _ I h
  rw [he] at hA ⊢
  refine Calls.evalArgs_plain (thn hA fun us s2 ⟨vs, H2, I2, r, z, q2⟩ => ⟨rfl, by rw [← r.length]; exact z, I2.bk _ _ hC, hN.keeps I2.bk, T.keeps I2.bk, fun h' a m => ?_⟩)
  obtain ⟨J, x⟩ := I2.made' m
  exact fl pins σ H2 _ a _ _ J x q2
end
end L2

set_option Elab.async false
set_option linter.all false
set_option maxRecDepth 100000
set_option maxHeartbeats 1000000
namespace L2
open PySem PySem.Spec PyProof.Rows

/-! ### which class catches -/
theorem exc_obj2 {K : PySem.W.Frag} {h : Heap} {C : Addr} {bmB : List Value} {newId : String} (X : K.In h) (q : PySem.W.excIn K C bmB newId = true) :
    ∃ bm N nm q bs hdct sn sub ab col dd k0 k1 k2 k3 k5, h.get? C = some (excClassObj nm q C N bs bm hdct sn sub ab col dd k0 k1 k2 k3 k5 newId) ∧ OwnTail h bmB bm ∧ ∀ v b, PySem.W.mroIn K C v = some b → (Value.ref C :: bm).contains v = b := by
  unfold PySem.W.excIn at q
  split at q
  case h_2 => cases q
  case h_1 dd cd sl ho =>
    split at q
    case h_2 => cases q
    case h_1 C' bm k0 k1 k2 k3 n k5 hm hs =>
      simp only [Bool.and_eq_true, beq_iff_eq, Bool.not_eq_true'] at q
      obtain ⟨⟨⟨⟨⟨e1, e2⟩, hdel⟩, ht⟩, hok⟩, hni⟩ := q
      subst e1 e2
      obtain ⟨nm, bs, mro, ns, qn, hd, sn, sub, ab, col, del⟩ := cd
      dsimp only at hm hdel hok hni
      subst hm hdel
      obtain ⟨l⟩ := sl
      simp only at hs
      subst hs
      refine ⟨bm, ns, nm, qn, bs, hd, sn, sub, ab, col, dd, k0, k1, k2, k3, k5, X _ _ ho, PySem.W.tail_of_in X ht, fun v b e => ?_⟩
      unfold PySem.W.mroIn PySem.W.clsIn at e
      rw [ho] at e
      simpa using e
section
variable {M : Model} {A : Around} {E : Value → Shared → Prop}
variable {nm q nm' q' : Str} {C N C' N' : Addr} {bs bm bs' bm' : List Value} {hdct hdct' : Bool} {sn sn' : List Str} {sub sub' : List Value} {ab ab' : Bool} {col col' : Option Bool} {dd dd' : Option Addr} {k0 k1 k2 k3 k5 l0 l1 l2 l3 l5 : Option Value} {newId newId' : String}
theorem exc_matches {s : Shared} {e : Addr} {oe : Obj} {b : Bool} {Q : Bool → Shared → Prop}
    (hC : s.heap.get? C = some (excClassObj nm q C N bs bm hdct sn sub ab col dd k0 k1 k2 k3 k5 newId)) (hD : s.heap.get? C' = some (excClassObj nm' q' C' N' bs' bm' hdct' sn' sub' ab' col' dd' l0 l1 l2 l3 l5 newId'))
    (he : s.heap.get? e = some oe) (hcls : oe.cls = .ref C') (hcB : (Value.ref C :: bm).contains (.type "BaseException") = true) (hb : (Value.ref C' :: bm').contains (.ref C) = b)
    (hq : Q b s) : wpAny M A (excMatches (.ref e) (.ref C)) Q E s := by
  obtain ⟨h, g, d, t, os⟩ := s
  have f := tc_notTuple
  unfold excMatches
  repeat (first | (with_reducible refine wpAny_loadPart_at he ?_; rw [hcls]) | with_reducible refine wpAny_loadPart_at hC ?_ | (with_reducible refine wpAny_isSubtype_exc hC ?_; rw [hcB]) | (with_reducible refine wpAny_isSubtype_exc hD ?_; rw [hb]) | wp_step)
  cases b <;> (wp_walk; exact hq)
end
/-- the class cls is told under C; both are own classes of exceptions without __init__ -/
structure Exc0 (K : PySem.W.Frag) (C : Addr) : Prop where
  ex : ∃ bmB newId, PySem.W.excIn K C bmB newId = true ∧ bmB.contains (.type "BaseException") = true
def Catches (K : PySem.W.Frag) (cls : Value) (C : Addr) (b : Bool) : Prop := ∃ D, cls = .ref D ∧ Exc0 K D ∧ PySem.W.mroIn K D (.ref C) = some b
theorem catch_ok {K : PySem.W.Frag} {M : Model} {A : Around} {E : Value → Shared → Prop} {s : Shared} {C a : Addr} {cls : Value} {oe : Obj} {b : Bool} {Q : Bool → Shared → Prop} (X : K.In s.heap) (hC : Exc0 K C) (c : Catches K cls C b)
    (he : s.heap.get? a = some oe) (hcls : oe.cls = cls) (hq : Q b s) : wpAny M A (excMatches (.ref a) (.ref C)) Q E s := by
  obtain ⟨D, rfl, hD, hm⟩ := c
  obtain ⟨bmB, newId, q1, hbase⟩ := hC.ex
  obtain ⟨bmB', newId', q2, _⟩ := hD.ex
  obtain ⟨bm, N, nm, q, bs, hdct, sn, sub, ab, col, dd, k0, k1, k2, k3, k5, hC1, T, _⟩ := exc_obj2 X q1
  obtain ⟨bm', N', nm', q', bs', hdct', sn', sub', ab', col', dd', l0, l1, l2, l3, l5, hD1, _, hmro⟩ := exc_obj2 X q2
  exact exc_matches hC1 hD1 he hcls (by rw [List.contains_cons, T.hasType hbase, Bool.or_true]) (hmro _ _ hm) hq

/-! ### in an except suite -/
def Cx.mk' (X : Cx) (a : Addr) : Cx := { X with A := X.A.mark (some (.ref a)), calm := false, xe := fun _ _ => False }
section
variable {X : Cx} {pins : List (Addr × Obj)} {σ : St} {H : Hp} {s : Shared} {a : Addr}
theorem Inv.mark (I : Inv X pins σ H s) : Inv (X.mk' a) pins σ H s :=
  ⟨⟨I.ok.mod, I.ok.kind, I.ok.glob, I.ok.blt, I.ok.above, I.ok.inj, I.ok.has, I.ok.cab, (fun z => nomatch (show false = true from z)), I.ok.frames, I.ok.stk, I.ok.exf, I.ok.bs, I.ok.bsz, I.ok.noex, I.ok.exfs, I.ok.funs, I.ok.frf⟩,
    I.os, I.bare, I.base, I.loc, I.cell, I.free, I.freeC, I.pin, I.hok, I.len⟩
theorem Inv.unmark (ok : X.Ok) (I : Inv (X.mk' a) pins σ H s) : Inv X pins σ H s := ⟨ok, I.os, I.bare, I.base, I.loc, I.cell, I.free, I.freeC, I.pin, I.hok, I.len⟩
end

/-! ### code that may raise, the names as they were -/
def XP (X : Cx) (pins : List (Addr × Obj)) (σ : St) (E : XK) (e : Value) (s' : Shared) : Prop := ∃ a cls dd H', e = .ref a ∧ Inv X pins σ H' s' ∧ XSt X pins H' s'.heap a cls dd ∧ E cls dd H'
def PX (X : Cx) (e : Expr) (t : XK → TE) : Prop :=
  ∀ (E : XK) (pins : List (Addr × Obj)) (s : Shared) (σ : St) (H : Hp) (Q : VK), Inv X pins σ H s → t E σ H Q → wpAny (model X.prog X.w) X.A (eval e X.env) (EP X pins σ Q) (XP X pins σ E) s
def PSX (X : Cx) (st : Stmt) (t : XK → TS) : Prop :=
  ∀ (E : XK) (pins : List (Addr × Obj)) (s : Shared) (σ : St) (H : Hp) (D : Ends), Inv X pins σ H s → t E D σ H → wpAny (model X.prog X.w) X.A (exec st X.env) (SP X pins D) (XP X pins σ E) s
section
variable {X : Cx} {x : Str} {p pos : Pos} {e : Expr} {es : List Expr} {t : TA} {ps : List Str} {sp : Sp} {n m : Nat} {E : XK}
theorem calm_wp {α : Type} {M : Model} {A : Around} {E E' : Value → Shared → Prop} {s : Shared} {c : Sem α} {Q : α → Shared → Prop} (hx : E' = fun _ _ => False) (h : wpAny M A c Q E' s) : wpAny M A c Q E s := by
  subst hx; exact wpAny_noRaise h
theorem run_fnX {pins : List (Addr × Obj)} {σ : St} {H : Hp} {s : Shared} {Q : VK} {us : List Value} {vs : List V} {f : Addr} {fd : FuncData} {k : Nat} (F : FnOk X.prog X.w X.K X.mg X.base (CXE X.prog X.w) k f fd ps sp) (hr : Room k X.A) (hb : Binds X.K fd ps [])
    (I : Inv X pins σ H s) (r : Vals vs us) (h : sp (vs ++ []) H Q E) : wpAny (model X.prog X.w) X.A (call (.ref f) us) (EP X pins σ Q) (XP X pins σ E) s := by
  have r2 : Vals (vs ++ []) (us ++ []) := r.append .nil
  have hl : (us ++ []).length = ps.length := by rw [← r2.length]; exact F.len _ _ _ _ h
  refine wpAny_call (codeAny_mono (F.run X.A X.stack s H ⟨us, []⟩ (us ++ []) (vs ++ []) Q E hr I.env0 (hb s us I.kIn hl) r2 h) fun r s' hq => ?_)
  cases r with
  | error e => exact I.afterE hq
  | ok fl =>
    cases fl with
    | ret u => exact I.after hq
    | next => exact False.elim hq
    | brk => exact False.elim hq
    | cont => exact False.elim hq
/-- x = f(..) -/
def xAsg (i : Nat) (t : XK → TE) : XK → TS := fun E D σ H => t E σ H fun v H1 => D.nx (σ.set i (some v)) H1
def xExp (t : XK → TE) : XK → TS := fun E D σ H => t E σ H fun _ H1 => D.nx σ H1
def xRet (t : XK → TE) : XK → TS := fun E D σ H => t E σ H fun v H1 => D.rt v H1
theorem psx_set {i : Nat} {te : XK → TE} {pos' : Pos} (hN : X.N.Nodup) (hi : X.N[i]? = some x) (hx : Loc X.env.scope x) (he : PX X e te) (hs : swapsWith e (some (.Name x pos')) pos.line X.env = pure false := by rfl) (hf : X.fn x = true ∨ X.env.scope.names.lookup x = some .local := by first | exact .inl rfl | exact .inr rfl | assumption) :
    PSX X (.Assign [.Name x pos'] e pos) (xAsg i te) := by
  intro E pins s σ H D I h
  refine wpAny_Assign_Name (thn (he E pins s σ H _ I h) fun v s1 ⟨y, H1, I1, r1, q1⟩ => ?_) hs
  exact store_ok I1 hN hi hx r1 (fun s2 I2 => ⟨_, H1, I2, q1⟩) hf
def xIf (c : TT) (t u : XK → TS) : XK → TS := fun E D σ H => c σ H fun b H1 => ifB b (t E D σ H1) (u E D σ H1)
/-! ### try, one statement; except C: a suite that does not raise -/
def tTry (K : PySem.W.Frag) (C : Addr) (t : XK → TS) (u : TS) : TS := fun D σ H => ∃ M : XK, t M D σ H ∧ ∀ cls dd H1, M cls dd H1 → Catches K cls C true ∧ u D σ H1
theorem XSt.land {X : Cx} {pins : List (Addr × Obj)} {σ : St} {H : Hp} {s : Shared} {a T : Addr} {cls : Value} {dd : Option Addr} {fl : Value} {M : Model} {A : Around} {E : Value → Shared → Prop} {Q : Unit → Shared → Prop} (I : Inv X pins σ H s) (x : XAt s.heap a T cls dd fl) (fT : Nw X pins H T)
    (h : ∀ h', Inv X pins σ H { s with heap := h' } → XAt h' a T cls dd .none → Q () { s with heap := h' }) : wpAny M A (setFlight (.ref a) none) Q E s :=
  flight_put x fun h' p x' => h h' (I.pass (p.more fun _ z => nomatch z) (by simpa using fT)) x'
end
end L2

set_option Elab.async false
set_option linter.all false
set_option maxRecDepth 100000
set_option maxHeartbeats 1000000
namespace L2
open PySem PySem.Spec PyProof.Rows PySem.W

section
variable {prog : Program} {w : World} {A : Around} {E : Value → Shared → Prop} {s : Shared} {K : Frag} {x D : Addr} {ox : Obj} {odo : Option Obj} {name : Str}
theorem exc_ga {R : Result → Shared → Prop} {tk : Tok} (X : K.In s.heap) (I : PySem.W.InstAt s.heap x ox D odo)
    (hcl : findIn K (.ref D) "__class__" = some (some (.builtin "object.__class__"))) (hmB : mroIn K D (.type "BaseException") = some true) (hmO : mroIn K D (.type "object") = some true)
    (h : R (.ok (.ret (.ref D))) s) : codeAny (model prog w) A (.call (.builtin "BaseException.__getattribute__") ⟨[.ref x, .str (Str.ofString "__class__") tk], []⟩) R s := by
  obtain ⟨hh, g, d, t, os⟩ := s
  have L0 := I.type (M := model prog w)
  have L3 := looks_findIn (M := model prog w) X hcl
  have L4 := looks_mroIn (M := model prog w) X hmB
  refine codeAny_call_builtin PySem.F.attr_ValueError.ga.plain PySem.F.entry_bexc_ga ?_
  have hk : builtinKind "BaseException.__getattribute__" = some .slot := by decide +kernel
  have hsplit : splitId "BaseException.__getattribute__" = some ("BaseException", "__getattribute__") := by decide +kernel
  have ha := PySem.F.args_bexc_ga (.ref x) (.str (Str.ofString "__class__") tk)
  simp only [checkBuiltinCall, hk, hsplit]
  refine wpAny_bind ?_
  unfold isInstance
  refine wpAny_bind (L0.at (L4.at ?_))
  have f5 := KF.type_class
  have f6 := PySem.F.slot_gs_get.lookup
  have f7 := PySem.F.slot_gs_set.lookup
  repeat (any_goals (first | assumption | with_reducible refine L0.at ?_ | with_reducible refine L3.at ?_ | wp_step))
  refine class_get (s := ⟨hh, g, d, t, os⟩) (ox := ox) (od := odo) X I hmO ?_
  repeat (any_goals (first | assumption | wp_step))
theorem exc_cls {Q : Option Value → Shared → Prop} (X : K.In s.heap) (I : PySem.W.InstAt s.heap x ox D odo) (hga : findIn K (.ref D) "__getattribute__" = some (some (.builtin "BaseException.__getattribute__")))
    (hgr : findIn K (.ref D) "__getattr__" = some none) (hcl : findIn K (.ref D) "__class__" = some (some (.builtin "object.__class__"))) (hmB : mroIn K D (.type "BaseException") = some true) (hmO : mroIn K D (.type "object") = some true)
    (h : Q (some (.ref D)) { s with toks := s.toks + 1 }) : wpAny (model prog w) A (getAttr? (.ref x) "__class__") Q E s := by
  obtain ⟨hh, g, d, t, os⟩ := s
  have L0 := I.type (M := model prog w)
  have L1 := looks_findIn (M := model prog w) X hga
  have L2' := looks_findIn (M := model prog w) X hgr
  have L3 := looks_findIn (M := model prog w) X hcl
  have L4 := looks_mroIn (M := model prog w) X hmB
  have f3 := PySem.F.attr_ValueError.ga.bind (.ref x)
  unfold getAttr? getAttrBy? getAttrBy
  refine wpAny_bind (wpAny_mkText (wpAny_bind (wpAny_attempt (wpAny_holding (wpAny_bind (L0.at (wpAny_bind (L1.at ?_))))))))
  have hx2 : (Value.builtin "BaseException.__getattribute__" == Value.builtin "object.__getattribute__") = false := by decide +kernel
  repeat (any_goals (first | assumption | wp_step))
  refine L2'.at ?_
  repeat (any_goals (first | assumption | wp_step))
  refine exc_ga X I hcl hmB hmO ?_
  exact handed_on rfl (wpAny_pure h)
end
/-! ### an exception that a name holds -/
def excO (a : Addr) (cls : Value) (dd : Option Addr) : HO := .ext fun h => ∃ oe vs, h.get? a = some oe ∧ oe.cls = cls ∧ oe.dict = dd ∧ oe.data = .fields vs ∧ vs[2]? = some .none
theorem excO_ok {P : Program} {w : World} {H : Hp} {h : Heap} {a T : Addr} {cls fl : Value} {dd : Option Addr} (x : XAt h a T cls dd fl) : ObjOk P w H h a (excO a cls dd) := by
  obtain ⟨oe, vs, oT, ts, h1, h2, h3, h4, h5, h5', _⟩ := x.ex
  exact ⟨⟨oe, vs, h1, h2, h3, h4, h5'⟩, ⟨_, h1⟩, fun g1 g2 ⟨oe, vs, k1, k2⟩ st => ⟨oe, vs, st _ k1, k2⟩⟩
/-- what a class of exceptions must have for isinstance -/
structure ExcK (K : Frag) (D : Addr) : Prop where
  ga : findIn K (.ref D) "__getattribute__" = some (some (.builtin "BaseException.__getattribute__"))
  gr : findIn K (.ref D) "__getattr__" = some none
  cl : findIn K (.ref D) "__class__" = some (some (.builtin "object.__class__"))
  mB : mroIn K D (.type "BaseException") = some true
  mO : mroIn K D (.type "object") = some true
theorem kitx_exc {K : Frag} {x D : Addr} {ox : Obj} {odo : Option Obj} (k : ExcK K D) : KitX K (.ref x) (.ref D) (fun h => PySem.W.InstAt h x ox D odo) where
  ty := fun _ _ _ I => I.type
  it := fun M h X _ => by
    obtain ⟨cd, hc, _⟩ := Option.bind_eq_some_iff.mp k.mO
    unfold clsIn at hc
    split at hc
    · rename_i c' d' cd' sl' ho
      intro A' Q' E' s' kk q
      unfold isType loadHead
      exact wpAny_bind (wpAny_loadPart (kk _ _ (X _ _ ho)) (wpAny_pure q))
    · cases hc
  ne := fun h tp dd its n sl X htp => by
    obtain ⟨cd, hc, _⟩ := Option.bind_eq_some_iff.mp k.mO
    refine Bool.eq_false_iff.mpr fun q => ?_
    have e : D = tp := Value.ref.inj (beq_iff_eq.mp q)
    subst e
    unfold clsIn at hc
    split at hc
    · rename_i c' d' cd' sl' ho
      have z := (X _ _ ho).symm.trans htp
      cases z
    · cases hc
  ca := fun X I q => exc_cls X I k.ga k.gr k.cl k.mB k.mO q
section
variable {X : Cx} {pins : List (Addr × Obj)} {σ : St} {H : Hp} {s : Shared} {a : Addr} {o : HO}
theorem Inv.track (I : Inv X pins σ H s) (n : Nw X pins H a) (ok : ObjOk X.prog X.w (upd H a o) s.heap a o) : Inv X pins σ (upd H a o) s := by
  obtain ⟨n1, n2, n3, n4, n5, n6⟩ := n
  have old : ∀ b u, H b = some u → upd H a o b = some u := fun b u e => by rw [upd_ne (ne_of_none e n1)]; exact e
  refine ⟨I.ok, I.os, I.bare, ⟨I.base.keep, I.base.slot, fun b u e n hx => ?_, I.base.there, fun b xs e => old _ _ (I.base.tups b xs e), fun b u v e => old _ _ (I.base.frzs b u v e), fun b ps e => ?_⟩, I.loc, I.cell, ?_, fun x c e => ?_, fun p hp => ?_, fun b u e => ?_, I.len⟩
  · have hb : b ≠ a := fun z => by
      subst z
      rcases n4 with q | q
      · exact hx q
      · rw [e] at q; cases q
    rw [upd_ne hb]; exact I.base.free b u e n hx
  · obtain ⟨m, q⟩ := I.base.tbls b ps e
    exact ⟨m, old _ _ q⟩
  · rw [upd_ne (Ne.symm n2)]; exact I.free
  · rw [upd_ne (n5 x c e)]; exact I.freeC x c e
  · obtain ⟨e, n, r⟩ := I.pin p hp
    exact ⟨e, by rw [upd_ne (n6 p hp)]; exact n, r⟩
  · by_cases hb : b = a
    · subst hb; rw [upd_same] at e; cases e; exact ok
    · rw [upd_ne hb] at e
      exact (I.hok b u e).stay (fun _ _ _ q => q) (fun c q => old _ _ q) fun c xs q => old _ _ q
theorem goes_ok {M : Model} {A : Around} {E : Value → Shared → Prop} {j : Nat} {n : Str} {pos : Pos} {Q : Unit → Shared → Prop} (I : Inv X pins σ H s) (hN : X.N.Nodup) (hj : X.N[j]? = some n) (hk : X.env.scope.names.lookup n = some .local)
    (h : ∀ s', Inv X pins (σ.set j none) H s' → Q () s') : wpAny M A (do bindName X.env n .none; unbindBehindTheSuite X.env n pos) Q E s := by
  obtain ⟨m, hn, hl⟩ := id I.loc
  have hcls : (X.env.scope.kind == .class || (X.env.scope.kind == .module && X.env.locals != X.env.globals)) = false := by rw [I.ok.kind]; rfl
  have hjσ : j < σ.length := by rw [I.len]; exact (List.getElem?_eq_some_iff.mp hj).1
  refine wpAny_nameGoes_keeps hk hn hcls fun h' v hn' hs => h _ ?_
  obtain ⟨oL, _, _, hoL, _⟩ := id hn
  refine ⟨I.ok, I.os, I.bare, ⟨fun b o e n hb hx => ?_, fun b o e n hb hx => ?_, I.base.free, fun b o e hx => ?_, I.base.tups, I.base.frzs, I.base.tbls⟩, ⟨_, hn', fun i y v' e1 e2 e3 => ?_⟩, fun y c e => ?_, I.free, I.freeC, fun p hp => ?_, fun b ob e => ?_, by simpa using I.len⟩
  · exact (hs.2 b (Nat.ne_of_lt (Nat.lt_of_lt_of_le (Heap.lt_size e) I.ok.above))).trans (I.base.keep b o e n hb hx)
  · obtain ⟨sl, e1⟩ := I.base.slot b o e n hb hx
    exact ⟨sl, (hs.2 b (Nat.ne_of_lt (Nat.lt_of_lt_of_le (Heap.lt_size e) I.ok.above))).trans e1⟩
  · obtain ⟨o', e1⟩ := I.base.there b o e hx
    exact ⟨o', (hs.2 b (Nat.ne_of_lt (Nat.lt_of_lt_of_le (Heap.lt_size e) I.ok.above))).trans e1⟩
  · by_cases hij : i = j
    · subst hij
      rw [List.getElem?_set_self hjσ] at e2
      cases e2
    · rw [List.getElem?_set_ne (Ne.symm hij)] at e2
      obtain ⟨u', r', q⟩ := hl i y v' e1 e2 e3
      refine ⟨u', r', ?_⟩
      rcases q with ⟨k, e⟩ | ⟨k, c, e, z⟩
      · refine .inl ⟨k, ?_⟩
        have : y ≠ n := fun e => hij (nodup_ix hN e1 (e ▸ hj))
        simp [this, e]
      · exact .inr ⟨k, c, e, z.sameBut hs (I.cne y c e)⟩
  · obtain ⟨w', z⟩ := I.cell y c e
    exact ⟨w', z.sameBut hs (I.cne y c e)⟩
  · obtain ⟨e, n, ne, nf, d⟩ := I.pin p hp
    exact ⟨(hs.2 p.1 ne).trans e, n, ne, nf, d⟩
  · refine (I.hok b ob e).stay (fun c w' hc q => (hs.2 c ?_).trans q) (fun _ q => q) fun _ _ q => q
    rintro rfl
    rcases hc with hc | hc
    · have z := I.free
      rw [hc, e] at z; cases z
    · rw [I.free] at hc; cases hc
end
/-! ### except C as n -/
def offJ (D : Ends) (j : Nat) : Ends := { nx := fun σ H => D.nx (σ.set j none) H, rt := D.rt, bk := fun σ H => D.bk (σ.set j none) H, ct := fun σ H => D.ct (σ.set j none) H }
def tTryAs (K : PySem.W.Frag) (C : Addr) (j : Nat) (t : XK → TS) (u : Addr → TS) : TS := fun D σ H => ∃ M : XK, t M D σ H ∧ ∀ cls dd H1, M cls dd H1 → Catches K cls C true ∧ ∀ a, H1 a = none → u a (offJ D j) (σ.set j (some (.ref a))) (upd H1 a (excO a cls dd))
section
variable {X : Cx}
theorem ps_tryAs {c n : Str} {j : Nat} {C : Addr} {st b₀ : Stmt} {suite : List Stmt} {t : XK → TS} {u : Addr → TS} {np hpos tpos : Pos} {L : Addr} (hst : X.stack = X.env :: X.outer) (hf : X.env.frame = some L) (hC : Exc0 X.K C) (hg : Gl X c) (hm : X.mg c = some (.ref C))
    (hN : X.N.Nodup) (hj : X.N[j]? = some n) (hk : X.env.scope.names.lookup n = some .local)
    (hb : PSX X st t) (hs : ∀ a, PSs (X.mk' a) (b₀ :: suite) (u a)) (hdb : (c == ("__debug__" : Str)) = false := by decide) :
    PS X (.Try [st] [.ExceptHandler (some (.Name c np)) (some n) (b₀ :: suite) hpos] [] [] tpos) (tTryAs X.K C j t u) := by
  intro pins s σ H D I h
  obtain ⟨M, ht, hu⟩ := h
  refine wpAny_Try_except (wpAny_execs_cons (wpAny_mono (hb M pins s σ H D I ht) (fun f s1 q => ?_) fun e s1 q => ?_))
  · cases f with
    | next => exact wpAny_pure (wpAny_pure q)
    | ret v => exact q
    | brk => exact q
    | cont => exact q
  · obtain ⟨a, cls, dd, H1, rfl, I1, x1, q1⟩ := q
    obtain ⟨hc, hu⟩ := hu cls dd H1 q1
    have na := x1.1
    refine note_any I1 x1 I1.ok.frames hst hf fun h2 T I2 fT x2 => ?_
    refine XSt.land I2 x2 fT fun h3 I3 x3 => ?_
    refine wpAny_handleBy_cons (codeAny_handlers_test (ld_glob (I3.mark (a := a)) hg hm ?_ hdb)) (by intro q; cases q)
    obtain ⟨oe, vs, oT, ts, g1, g2, _⟩ := id x3.ex
    refine catch_ok I3.kIn hC hc g1 g2 ?_
    refine codeAny_handlers_suite_as (XSt.land I3 x3 fT fun h4 I4 x4 => ?_)
    have I5 := I4.track na (excO_ok x4)
    refine store_ok (i := j) I5 hN hj (.inl hk) (v := .ref a) rfl (fun s6 I6 => ?_) (.inr hk)
    refine wpAny_noRaise (thn (hs a pins _ _ _ (offJ D j) (I6.mark (a := a)) (hu a na.1)) fun f s5 q => ?_)
    cases f with
    | next => obtain ⟨σ', H', J, q⟩ := q; exact goes_ok (J.unmark I.ok) hN hj hk fun s7 J7 => ⟨_, H', J7, q⟩
    | ret v => obtain ⟨v, σ', H', J, r, q⟩ := q; exact goes_ok (J.unmark I.ok) hN hj hk fun s7 J7 => ⟨v, _, H', J7, r, q⟩
    | brk => obtain ⟨σ', H', J, q⟩ := q; exact goes_ok (J.unmark I.ok) hN hj hk fun s7 J7 => ⟨_, H', J7, q⟩
    | cont => obtain ⟨σ', H', J, q⟩ := q; exact goes_ok (J.unmark I.ok) hN hj hk fun s7 J7 => ⟨_, H', J7, q⟩
/-- isinstance of an exception -/
def isiExc (K : PySem.W.Frag) (a : Addr) (c : V) (H : Hp) (Q : VK) : Prop := ∃ D dd cv b, H a = some (excO a (.ref D) dd) ∧ ExcK K D ∧ (dd = none ∨ ∃ d fs, dd = some d ∧ H d = some (.xd fs)) ∧ cV c = some cv ∧ PySem.W.kitOne K (.ref D) cv = some b ∧ Q (.bl b) H
end
end L2

set_option Elab.async false
set_option linter.all false
set_option maxRecDepth 100000
set_option maxHeartbeats 1000000
namespace L2
open PySem PySem.Spec PyProof.Rows PySem.W
theorem entry_unchain : entryFor table "proto.unchain" = some Builtin.«proto.unchain» := by first | exact entryFor_of_fast (by kernel_rfl) | exact entryFor_of_tree (by kernel_rfl)
section
variable {prog : Program} {w : World} {A : Around} {E : Value → Shared → Prop} {s : Shared}
theorem rangeH_end {it a : Addr} {oa : Obj} {vs : Array Value} {x left step : Int} {Q : Option Value → Shared → Prop} (hh : A.handled = some (.ref a)) (ha : s.heap.get? a = some oa) (hd : oa.data = .fields vs) (h2 : vs[2]? = some .none)
    (hit : IsRangeIter s.heap it x left step) (hleft : left ≤ 0) (hQ : ∀ h', Heap.ExtBut it s.heap h' → Q none { s with heap := h' }) : wpAny (model prog w) A (pyNext (.ref it)) Q E s := by
  have hT : s.TypeIs (.ref it) "range_iterator" := ⟨_, hit, rfl⟩
  unfold pyNext
  refine wpAny_bind (wpAny_attempt (wpAny_callSpecial?_slot (name := Str.ofString "__next__") hT F.slot_range_iterator_next
    (wpAny_call_entry F.slot_range_iterator_next hT F.entry_range_iterator_next ?_ (F.args_range_iterator_next_1 _))))
  show wpAny _ _ (field (.ref it) 0 >>= _) _ _ s
  refine wpAny_bind (wpAny_field hit rfl (x := rawInt x) rfl ?_)
  show wpAny _ _ (field (.ref it) 1 >>= _) _ _ s
  refine wpAny_bind (wpAny_field hit rfl (x := rawInt left) rfl ?_)
  show wpAny _ _ (field (.ref it) 2 >>= _) _ _ s
  refine wpAny_bind (wpAny_field hit rfl (x := rawInt step) rfl ?_)
  show wpAny _ _ (if left ≤ 0 then _ else _) _ _ s
  rw [if_pos hleft]
  refine wpAny_bind (wpAny_rule ?_)
  refine wpAny_bind ?_
  show wpAny _ _ (newExc (.type "StopIteration") [] >>= _) _ _ _
  refine wpAny_bind ?_
  simp only [newExc, newTuple]
  refine wpAny_bind (wpAny_newObj_type ?_ (by size_fits))
  refine wpAny_bind (m := firstArgMember _ _) (wpAny_of_eq (a := Value.none) (by first | rfl | (simp only [firstArgMember]; rfl)) ?_)
  refine wpAny_newObj_type ?_ (by size_fits)
  simp only [raiseNew]
  refine wpAny_bind (wpAny_handled ?_)
  first | rw [show A.in1.handled = some (.ref a) from hh] | rw [hh]
  dsimp only
  have hlt := Heap.lt_size ha
  have ha2 : ∀ o1 o2 : Obj, ((s.heap.push o1).push o2).get? a = some oa := fun o1 o2 => Heap.get?_push_of_some _ (Heap.get?_push_of_some _ ha)
  have hne : a ≠ (s.heap.push { cls := .type "tuple", data := .seq ([] : List Value).toArray }).objs.size := by
    rw [Heap.size_push]; exact Nat.ne_of_lt (Nat.lt_succ_of_lt hlt)
  rw [if_pos (show ((Value.ref a) != Value.ref (s.heap.push { cls := .type "tuple", data := .seq ([] : List Value).toArray }).objs.size) = true by simpa using hne)]
  refine wpAny_bind (wpAny_holding (wpAny_runValue (codeAny_builtin entry_unchain ?_)))
  unfold Builtin.«proto.unchain»
  dsimp only
  refine wpAny_bind (wpAny_field (ha2 _ _) hd h2 ?_)
  rw [if_pos (by decide)]
  refine wpAny_bind (wpAny_pure ?_)
  refine wpAny_pure ?_
  have hnew := Heap.get?_push_size (s.heap.push { cls := .type "tuple", data := .seq ([] : List Value).toArray }) (o := { cls := .type "StopIteration", data := .fields (#[.ref s.heap.objs.size, .none, .none, .none, .bool false, .none] ++ ownMembersOf (.type "StopIteration") []) }) rfl
  show wpAny _ _ _ _ _ _
  refine wpAny_bind (wpAny_setField (a := (s.heap.push { cls := .type "tuple", data := .seq ([] : List Value).toArray }).objs.size) (i := 2) (x := .ref a) hnew rfl (by rw [Array.size_append]; exact Nat.lt_of_lt_of_le (by decide : 2 < 6) (Nat.le_add_right _ _)) (wpAny_throw ?_))
  refine wpAny_bind (wpAny_isInstance (T := "StopIteration") (b := true) ⟨_, Heap.get?_update_self _ hnew rfl, rfl⟩ isSubtype_stop ?_)
  refine wpAny_pure (hQ _ fun b o hb e => ?_)
  rw [Heap.get?_update_other _ _ (fun z => by
    rw [← z, Heap.size_push] at e
    exact absurd (Heap.lt_size e) (Nat.not_lt.mpr (Nat.le_succ _)))]
  exact Heap.get?_push_of_some _ (Heap.get?_push_of_some _ e)
end
end L2

set_option Elab.async false
set_option linter.all false
set_option maxRecDepth 100000
set_option maxHeartbeats 1000000
namespace L2
open PySem PySem.Spec PyProof.Rows

/-! ### range(..) while the exception at a is handled -/
def ItrH (a : Addr) (lo : Int) (n : Nat) : It := ⟨fun i _ => i < n, fun i H x H' => H' = H ∧ x = .int (lo + i), fun i H => n ≤ i ∧ ∃ cls dd, H a = some (excO a cls dd)⟩
theorem turn_rangeH {P : Program} {w : World} {K : PySem.W.Frag} {A₀ : Around} {c : Bool} {tg : Expr} {a : Addr} (hh : A₀.handled = some (.ref a)) (it : Addr) (lo : Int) (n : Nat) :
    TurnA P w K A₀ c tg (ItrH a lo n) [it] it (fun i h => IsRangeIter h it (lo + (i : Nat) * 1) ((n : Int) - (i : Nat)) 1) where
  mem := by simp
  obj := fun i h st b hb => by
    have e : b = it := by simpa using hb
    subst e
    exact ⟨_, st, fun v z => by
      have z' : Data.fields _ = Data.cell v := z
      cases z'⟩
  keep := fun i h h' st k => k it (by simp) _ st
  item := by
    intro X hP hw hK hA hc i pins s σ H E I hf st hg
    subst hP hw hK
    obtain ⟨f0, f1, f2, f3, f4, f5⟩ := hf it (by simp)
    have hg' : i < n := hg
    refine wpAny_pyNext_range_item st (by omega) fun h' st' sb => ?_
    have I1 : Inv X pins σ H { s with heap := h', toks := s.toks + 1 } := I.turned (fun b o hb e => (sb.2 b hb).trans e) f0 f1 f3 f4 f5
    have st2 : IsRangeIter h' it (lo + ((i + 1 : Nat) : Int) * 1) ((n : Int) - ((i + 1 : Nat) : Int)) 1 := by
      have e1 : lo + ((i + 1 : Nat) : Int) * 1 = lo + (i : Nat) * 1 + 1 := by omega
      have e2 : (n : Int) - ((i + 1 : Nat) : Int) = (n : Int) - (i : Nat) - 1 := by omega
      rw [e1, e2]; exact st'
    refine ⟨_, rfl, go_of (s := { s with heap := h', toks := s.toks + 1 }) (n := "range_iterator") st' rfl rfl (by decide) ⟨.int (lo + i), H, I1, ⟨s.toks, ?_⟩, ⟨rfl, rfl⟩, st2, fun b hb => (hf b hb).1⟩⟩
    rw [Int.mul_one]
  done := by
    intro X hP hw hK hA hc i pins s σ H E I hf st hg
    subst hP hw hK
    obtain ⟨f0, f1, f2, f3, f4, f5⟩ := hf it (by simp)
    obtain ⟨hn, cls, dd, ea⟩ := hg
    obtain ⟨⟨oe, vs, k1, k2, k3, k4, k5⟩, _, _⟩ := I.hok a _ ea
    exact rangeH_end (by rw [hA]; exact hh) k1 k4 k5 st (by have : n ≤ i := hn; omega) fun h' eb => ⟨rfl, I.turned (t' := s.toks) (fun b o hb e => eb b o hb e) f0 f1 f3 f4 f5⟩
  self := fun _ _ _ _ _ st h => wpAny_pyIter_rangeiter st h
section
variable {X : Cx} {tg : Expr}
theorem range_itH {a : Addr} (hh : X.A.handled = some (.ref a)) {pins : List (Addr × Obj)} {σ : St} {H : Hp} {s : Shared} {R : It → Hp → Prop} {E : Value → Shared → Prop} {lo hi : Int} {t u v : Tok} {tk : Nat} (I : Inv X pins σ H s) (h1 : -(2 ^ 62) ≤ lo) (h2 : lo < 2 ^ 62) (h3 : -(2 ^ 62) ≤ hi) (h4 : hi < 2 ^ 62)
    (q : R (ItrH a lo (hi - lo).toNat) H) : wpAny (model X.prog X.w) X.A (pyIter (.ref s.heap.objs.size)) (PIAE X pins σ tg R) E { s with heap := s.heap.push { cls := .type "range", data := .fields #[.int lo t, .int hi u, .int 1 v] }, toks := tk } := by
  refine wpAny_pyIter_range (IsRange.new ..) (small_one h1 h2 h3 h4) ?_
  have I1 : Inv X pins σ H { s with heap := s.heap.push { cls := .type "range", data := .fields #[.int lo t, .int hi u, .int 1 v] }, toks := tk } := I.kept fun b o e => Heap.get?_push_of_some _ e
  refine ⟨(s.heap.push { cls := .type "range", data := .fields #[.int lo t, .int hi u, .int 1 v] }).objs.size, [(s.heap.push { cls := .type "range", data := .fields #[.int lo t, .int hi u, .int 1 v] }).objs.size], _, _, H, rfl,
    I1.kept (t' := tk) fun b o e => Heap.get?_push_of_some _ e, turn_rangeH hh _ lo (hi - lo).toNat, ?_, fun b hb => ?_, q⟩
  · have e1 : lo + ((0 : Nat) : Int) * 1 = lo := by simp
    have e2 : (((hi - lo).toNat : Nat) : Int) - ((0 : Nat) : Int) = Builtin.Range.rangeSize lo hi 1 := by rw [rangeSize_one]; split <;> omega
    show IsRangeIter _ _ (lo + ((0 : Nat) : Int) * 1) ((((hi - lo).toNat : Nat) : Int) - ((0 : Nat) : Int)) 1
    rw [e1, e2]
    exact Heap.get?_push_size _ rfl
  · have e : b = (s.heap.push { cls := .type "range", data := .fields #[.int lo t, .int hi u, .int 1 v] }).objs.size := by simpa using hb
    subst e
    exact I1.fpOk (Nat.le_refl _) (I1.hok.fresh (Nat.le_refl _))
def wRngH1 (h : Addr) (ta : TA) : TI := fun σ H R => ta σ H fun vs H1 => match vs with | [.int j] => (-4611686018427387904 ≤ j ∧ j < 4611686018427387904) ∧ R (ItrH h 0 j.toNat) H1 | _ => False
theorem wi_rangeH1 {h : Addr} {a : Expr} {ta : TA} {p pos : Pos} (hh : X.A.handled = some (.ref h)) (hg : Gl X "range") (hm : X.mg "range" = none) (ha : PA X [a] ta) (hs : notStar a = true := by rfl) : PIA X tg (.Call (.Name "range" p) [a] [] pos) (wRngH1 h ta) := by
  intro pins s σ H R I q
  refine Call_ (ld_blt I hg hm boot_range (PyProof.Rows.callWith_type1 (thn (ha pos pins s σ H _ I q) fun us s1 ⟨vs, H1, I1, r1, q1⟩ => ?_) (starEach_c hs) rfl))
  match vs, q1 with
  | [.int j], q1 =>
    cases r1 with
    | cons r rr =>
      cases rr
      obtain ⟨t, rfl⟩ := r
      have h1 : -4611686018427387904 ≤ j := q1.1.1
      have h2 : j < 4611686018427387904 := q1.1.2
      exact call_range_1 (range_itH hh I1 (by omega) (by omega) (by omega) (by omega) (by simpa using q1.2))
end
theorem comp_rangeH {h : Addr} {lo : Int} {n : Nat} {pk : List (Option Nat)} {g : TG} {tt : TT} {te : TE} {σ : St} {H : Hp} {Q : VK} (Pv : Nat → List V → Hp → Prop) (hn : n ≤ sizeLine) (hlen : ∀ i ys H, Pv i ys H → ys.length ≤ i) (h0 : Pv 0 [] H)
    (hx : ∀ ys H, Pv n ys H → ∃ cls dd, H h = some (excO h cls dd))
    (hs : ∀ i ys H, i < n → Pv i ys H → g (.int (lo + i)) (pick pk σ) H fun σ2 H2 => Sup (pick pk σ) σ2 ∧ tt σ2 H2 fun b H3 => if b = true then te σ2 H3 fun v H4 => Pv (i + 1) (ys ++ [v]) H4 else Pv (i + 1) ys H3)
    (hd : ∀ ys H, Pv (n) ys H → ∀ p, H p = none → Q (.ref p) (upd H p (.lst ys))) :
    cmpW (ItrH h lo n) pk g tt te σ H Q := by
  refine ⟨fun i m ys H => m = n - i ∧ i ≤ n ∧ Pv i ys H, ⟨n, by simp, Nat.zero_le _, h0⟩, ?_⟩
  rintro i m ys H ⟨rfl, hi, p⟩
  have hl := hlen _ _ _ p
  by_cases hlt : i < n
  · refine .inr ⟨hlt, by omega, Pv (i + 1), fun zs H' p' => ⟨n - (i + 1), by omega, rfl, hlt, p'⟩, fun x H' y => ?_⟩
    obtain ⟨e, y⟩ := y
    subst e y
    exact hs i ys _ hlt p
  · have e : i = n := by omega
    subst e
    exact .inl ⟨⟨Nat.le_refl _, hx ys H p⟩, by omega, hd ys H p⟩
theorem we_compA {X : Cx} {scope : Scope} {N' : List Str} {pk : List (Option Nat)} {tg elt iter : Expr} {ifs : List Expr} {pos : Pos} {wi : TI} {g : TG} {tt : TT} {te : TE} (S : CompScope X scope N' pk) (hi : PIA X tg iter wi) (hg : ∀ C s H ex, PG (compCx X scope N' C s H ex) tg g) (ht : ∀ C s H ex, PTs (compCx X scope N' C s H ex) ifs tt)
    (he : ∀ C s H ex, PE (compCx X scope N' C s H ex) elt te) (hs : notSet iter = true := by rfl) : PE X (.ListComp elt [⟨tg, iter, ifs, 0⟩] scope pos) (wComp pk wi g tt te) :=
  pe_compA S hi hg ht he (foldedSet_c hs)

/-! ### a def that is called in an except suite -/
structure RoomH (k : Nat) (A : Around) (a : Addr) : Prop where
  hd : A.handled = some (.ref a)
  dp : A.depth + 3 * k + 5 < recursionLimit
  un : A.units + 16 * k + 200 < cLine
theorem RoomH.mono {j k : Nat} {A : Around} {a : Addr} (r : RoomH k A a) (h : j ≤ k) : RoomH j A a := ⟨r.hd, by have := r.dp; omega, by have := r.un; omega⟩
theorem RoomH.deeper {k : Nat} {A : Around} {a : Addr} (r : RoomH (k + 1) A a) (env : Env) : RoomH k (A.deeper env) a :=
  ⟨r.hd, by have := r.dp; show A.depth + 1 + 3 * k + 5 < _; omega, by have := r.un; show A.units + 3 + 16 * k + 200 < _; omega⟩
theorem Room.mark {k : Nat} {A : Around} (r : Room k A) (a : Addr) : RoomH k (A.mark (some (.ref a))) a := ⟨rfl, r.dp, r.un⟩
structure FnOkH (P : Program) (w : World) (K : PySem.W.Frag) (mg : Str → Option Value) (base : Heap) (k : Nat) (f : Addr) (fd : FuncData) (ps : List Str) (sp : Addr → Sp) : Prop where
  len : ∀ a vs H Q E, sp a vs H Q E → vs.length = ps.length
  run : ∀ (a : Addr) (A : Around) (outer : List Env) (s : Shared) (H : Hp) (args : Args) (us : List Value) (vs : List V) (Q : VK) (E : XK), RoomH k A a → Env0 P w K mg base A outer s H → BindsTo s fd args (ps.zip us) → Vals vs us → sp a vs H Q E →
    codeAny (model P w) A (.call (.ref f) args) (CR CX0 outer P w H s Q E) s
def Cx.uncalm (X : Cx) : Cx := { X with calm := false, xe := fun _ _ => False }
theorem fn_ofH {P : Program} {w : World} {K : PySem.W.Frag} {mg : Str → Option Value} {base : Heap} {k : Nat} {x qual : Str} {st : Stmt} {f : Addr} {fd : FuncData} {N ps : List Str} {sp : Addr → Sp} (F : Fun K x qual st f fd) (S : FnScope N ps (defScope st))
    (len : ∀ a vs H Q E, sp a vs H Q E → vs.length = ps.length)
    (hbody : ∀ (cdv : Value) (a : Addr) (A : Around) (outer : List Env) (s : Shared) (H : Hp) (vs : List V) (Q : VK) (E : XK), RoomH k (A.deeper (envOfC qual (defScope st) s.heap.objs.size f cdv)) a → sp a vs H Q E →
      ∃ t, PSs (cxOf CX0 P w K mg base N qual (defScope st) f cdv A outer s H E).uncalm (defBody st) t ∧ t { nx := fun _ H' => Q .non H', rt := Q } (start N vs) H) : FnOkH P w K mg base (k + 1) f fd ps sp := by
  obtain ⟨oc, od, kV, doc, pm, an, cdv, ct, osl, rfl, lk, hcd⟩ := F.ex
  refine ⟨len, fun a A outer s H args us vs Q E hr e0 hb r hsp => ?_⟩
  have hl := len _ _ _ _ _ hsp
  have KX : K.In s.heap := e0.mod.kin.keeps fun b o e => (e0.bs b o e).1
  have lim : s.heap.NoLimit := e0.mod.nolimit.keeps fun b o e => (e0.bs b o e).1
  have hkind : ∀ y ∈ ps.zip us, (defScope st).names.lookup y.1 = some .local ∨ ((defScope st).names.lookup y.1 = some .cell ∧ ((cellsFrom (s.heap.objs.size + 1) (defScope st).names []).lookup y.1).isSome = true) := fun ⟨n, v⟩ hy => by
    rcases S.par n (List.of_mem_zip hy).1 with q | q
    · exact .inl q
    · exact .inr ⟨q, PySem.W.cellsFrom_some _ _ _ (.inl q)⟩
  refine codeAny_call_function (by have := hr.dp; omega) (KX _ _ lk) rfl S.co S.gen rfl (PySem.W.codeRec_of KX hcd) (hb _ _ _ _ ?_)
  refine wpAny_newFunctionEnv_cells S.kind hkind fun env he s1 x => ?_
  subst he
  refine ⟨lim.keeps x.toInCall.keep, codeAny_func ?_⟩
  obtain ⟨t, ht, hq⟩ := hbody cdv a A outer s H vs Q E (hr.deeper _) hsp
  have e1 : Env0 P w K mg base ({ A with handled := none } : Around) outer s H := ⟨e0.frames, e0.mod, e0.bs, e0.bsz, e0.funs, e0.frf, e0.hok, e0.bare⟩
  have I0 : Inv (cxOf CX0 P w K mg base N qual (defScope st) f cdv ({ A with handled := none } : Around) outer s H E) [] (start N vs) H s1 := inv_start S rfl e1 hl r x
  have I : Inv (cxOf CX0 P w K mg base N qual (defScope st) f cdv A outer s H E).uncalm [] (start N vs) H s1 :=
    ⟨⟨I0.ok.mod, I0.ok.kind, I0.ok.glob, I0.ok.blt, I0.ok.above, I0.ok.inj, I0.ok.has, I0.ok.cab, (fun z => nomatch (show false = true from z)), Around.frames_deeper e0.frames, I0.ok.stk, I0.ok.exf, I0.ok.bs, I0.ok.bsz, I0.ok.noex, I0.ok.exfs, I0.ok.funs, I0.ok.frf⟩,
      I0.os, I0.bare, I0.base, I0.loc, I0.cell, I0.free, I0.freeC, I0.pin, I0.hok, I0.len⟩
  refine wpAny_mono (ht [] s1 (start N vs) H _ I hq) (fun fl s' hs => ?_) fun e s' hs => hs.elim
  have fin : ∀ {σ' : St} {H' : Hp} {v : V} {u : Value}, Inv (cxOf CX0 P w K mg base N qual (defScope st) f cdv A outer s H E).uncalm [] σ' H' s' → RelV v u → Q v H' → CE outer P w H s Q u s' :=
    fun {σ' H' v u} J rv q => ⟨v, H', J.os, J.bare, J.base, J.hok, rv, q⟩
  cases fl with
  | ret u =>
    obtain ⟨v, σ', H', J, rv, q⟩ := hs
    exact fin J rv q
  | next =>
    obtain ⟨σ', H', J, q⟩ := hs
    exact fin (v := V.non) (u := Value.none) J rfl q
  | brk =>
    obtain ⟨_, _, _, q⟩ := hs
    exact False.elim q
  | cont =>
    obtain ⟨_, _, _, q⟩ := hs
    exact False.elim q
structure CalH (P : Program) (w : World) (K : PySem.W.Frag) (mg : Str → Option Value) (base : Heap) (n : Nat) (x : Str) (ps : List Str) (sp : Addr → Sp) : Prop where
  ex : ∃ f fd, FnOkH P w K mg base n f fd ps sp ∧ Binds K fd ps [] ∧ PySem.W.keepIn K (.ref f) = true ∧ mg x = some (.ref f)
section
variable {X : Cx} {x : Str} {p pos : Pos} {e : Expr} {es : List Expr} {t : TA} {ps : List Str} {sp : Addr → Sp} {n m : Nat} {a : Addr}
theorem pe_fnH (c : CalH X.prog X.w X.K X.mg X.base n x ps sp) (hr : RoomH m X.A a) (hn : n ≤ m) (hg : Gl X x) (ha : PA X (e :: es) t) (hdb : (x == ("__debug__" : Str)) = false := by decide)
    (hp : plainAll (e :: es) = true := by rfl) : PE X (.Call (.Name x p) (e :: es) [] pos) (tCall (sp a) [] E0 t) := by
  obtain ⟨f, fd, F, b, k, hm⟩ := c.ex
  have h' : (notStar e && plainAll es) = true := hp
  rw [Bool.and_eq_true] at h'
  intro pins s σ H Q I h
  refine wpAny_Call_Name_kw (ld_glob I hg hm ?_ hdb)
  refine PySem.W.callWith_K (h₀ := X.base) I.ok.mod.kin k (thn (ha pos pins s σ H _ I h) fun us s1 ⟨vs, H1, I1, r, q⟩ => ⟨I1.kIn, ?_⟩) (starEach_c h'.1) (plain_any h'.2)
  have r2 : Vals (vs ++ []) (us ++ []) := r.append .nil
  have hl : (us ++ []).length = ps.length := by rw [← r2.length]; exact F.len _ _ _ _ _ q
  refine wpAny_call (codeAny_mono (F.run a X.A X.stack s1 H1 ⟨us, []⟩ (us ++ []) (vs ++ []) Q E0 (hr.mono hn) I1.env0 (b s1 us I1.kIn hl) r2 q) fun r s' hq => ?_)
  cases r with
  | error e => exact False.elim hq
  | ok fl =>
    cases fl with
    | ret u => exact I1.after hq
    | next => exact False.elim hq
    | brk => exact False.elim hq
    | cont => exact False.elim hq
end
/-! ### isinstance, exceptions too -/
def isiAny (K : PySem.W.Frag) (a : Addr) (c : V) (H : Hp) (Q : VK) : Prop := isiRef K (.ref a) c H Q ∨ isiExc K a c H Q
def wIsiX (K : PySem.W.Frag) : List V → Hp → VK → Prop := fun xs H Q => match xs with
  | [.ref a, c] => isiAny K a c H Q
  | xs => wIsi K xs H Q
theorem w_isiX {X : Cx} {K : PySem.W.Frag} (hK : X.K = K) : CallR X (.builtin "isinstance") (wIsiX K) := by
  intro pins s σ H xs us Q I r h
  have old : wIsi K xs H Q → wpAny (model X.prog X.w) X.A (call (.builtin "isinstance") us) (EP X pins σ Q) X.xe s := fun h => w_isi hK pins s σ H xs us Q I r h
  match xs, h with
  | [.ref a, c], h =>
    rcases h with h | ⟨D, dd, cv, b, e, k, hdd, hc, hk, q⟩
    · subst hK
      obtain ⟨cv, t, b, h1, h2, h3, h4⟩ := h
      exact call_isi pins s σ H _ us Q I r ⟨.ref a, c, cv, t, b, rfl, h1, h2, h3, h4⟩
    · subst hK
      obtain ⟨u, w', rfl, r1, r2⟩ := vals2 r
      cases cV_is hc r2
      obtain rfl : u = Value.ref a := r1
      obtain ⟨⟨oe, vs, k1, k2, k3, k4, k5⟩, _, _⟩ := I.hok a _ e
      rcases hdd with rfl | ⟨d, fs, rfl, ed⟩
      · refine PySem.W.kia_one (kitx_exc (ox := oe) (odo := none) k) I.kIn ⟨k1, k2, ?_, ?_⟩ hk (fun z => nomatch z) fun tk => ⟨.bl b, H, I.tok _, rfl, q⟩
        · unfold PySem.W.notCls; rw [k4]
        · rw [k3]; trivial
      · obtain ⟨mA, ⟨od, es, ep, e', _⟩, _⟩ := I.hok d _ ed
        refine PySem.W.kia_one (kitx_exc (ox := oe) (odo := some od) k) I.kIn ⟨k1, k2, ?_, ?_⟩ hk (fun z => nomatch z) fun tk => ⟨.bl b, H, I.tok _, rfl, q⟩
        · unfold PySem.W.notCls; rw [k4]
        · rw [k3]; exact e'
  | [], h => exact old h
  | [.non], h => exact old h
  | [.bl _], h => exact old h
  | [.int _], h => exact old h
  | [.str _], h => exact old h
  | [.byt _], h => exact old h
  | [.flt _], h => exact old h
  | [.ty _], h => exact old h
  | [.ref _], h => exact old h
  | [.non, c], h => exact old h
  | [.bl _, c], h => exact old h
  | [.int _, c], h => exact old h
  | [.str _, c], h => exact old h
  | [.byt _, c], h => exact old h
  | [.flt _, c], h => exact old h
  | [.ty _, c], h => exact old h
  | x :: y :: z :: r, h => exact old (by cases x <;> exact h)
theorem isiAnyX {K : PySem.W.Frag} {H : Hp} {a D : Addr} {c : V} {cv : Value} {b : Bool} {Q : VK} (e : H a = some (excO a (.ref D) none)) (k : ExcK K D) (h1 : cV c = some cv) (h3 : PySem.W.kitOne K (.ref D) cv = some b) (g : Q (.bl b) H) : isiAny K a c H Q := .inr ⟨D, none, cv, b, e, k, .inl rfl, h1, h3, g⟩
end L2

set_option Elab.async false
set_option linter.all false
set_option maxRecDepth 100000
set_option maxHeartbeats 1000000
namespace L2
open PySem PySem.Spec PyProof.Rows

/-! ### methods and fields of own classes, the class known where it is read -/
theorem meth_call {M : Model} {A : Around} {E : Value → Shared → Prop} {s : Shared} {env : Env} {o : Expr} {m : Str} {apos pos : Pos} {es : List Expr} {Q : Value → Shared → Prop} (hb : notCall0 o = true) (hp : plainAll es = true) (hl : es.length < 29) (hline : (apos.endLine == pos.line) = true)
    (h : wpAny M A (eval o env) (fun ov s₁ => wpAny M A (getMethod ov m (do return (← importBound o env).getD true)) (fun fx s₂ => wpAny M A (callWith pos fx.1 fx.2 (backTo pos (starEach es env)) (backToKw pos (keywordEach [] env))) Q E s₂) E s₁) E s) :
    wpAny M A (eval (.Call (.Attribute o m apos) es [] pos) env) Q E s := by
  have hfew : methodCallForm (es.length + ([] : List Keyword).length) (backTo pos (starEach es env)) (backToKw pos (keywordEach [] env)) = true := by
    unfold methodCallForm
    rw [plain_all hp, arm_keywordEach_nil]
    show (true && true && decide (es.length + 0 + 0 < 30)) = true
    rw [decide_eq_true (by omega)]; rfl
  rw [arm_eval_Call, base_c hb]
  refine wpAny_bind (thn h fun ov s1 h1 => wpAny_bind (wpAny_standAt ?_))
  unfold methodCall
  rw [hfew]
  refine wpAny_bind (wpAny_holding ?_)
  unfold calleeOf
  rw [if_pos rfl]
  refine thn h1 fun fx s2 h2 => ?_
  refine wpAny_bind ?_
  unfold methodCallPos
  rw [hline]
  exact wpAny_pure h2
/-- a method of a class, promised -/
structure MCal (P : Program) (w : World) (K : PySem.W.Frag) (mg : Str → Option Value) (base : Heap) (CX : CXT) (n : Nat) (m : Str) (C : Addr) (sp : Sp) : Prop where
  ex : ∃ f fd ps, Cls K C ∧ Meth K C m f ∧ FnOk P w K mg base CX n f fd ps sp ∧ Binds K fd ps []
def methAt (P : Program) (w : World) (K : PySem.W.Frag) (mg : Str → Option Value) (base : Heap) (CX : CXT) (n : Nat) (m : Str) (a : Addr) (E : XK) (H : Hp) (k : Sp → Prop) : Prop := ∃ C dx fs sp, H a = some (.ins C dx fs) ∧ fs.lookup m = none ∧ MCal P w K mg base CX n m C sp ∧ k sp
def wMeth (P : Program) (w : World) (K : PySem.W.Frag) (mg : Str → Option Value) (base : Heap) (CX : CXT) (n : Nat) (m : Str) (E : XK) (to : TE) (t : TA) : TE := fun σ H Q => to σ H fun x H1 => match x with
  | .ref a => methAt P w K mg base CX n m a E H1 fun sp => t σ H1 fun vs H2 => sp (.ref a :: vs) H2 Q E
  | _ => False
section
variable {X : Cx} {CX : CXT} {o e : Expr} {es : List Expr} {to : TE} {t : TA} {m : Str} {apos pos : Pos} {n k : Nat} {E : XK}
theorem we_meth (hx : Passes CX X E) (hr : Room k X.A) (hn : n ≤ k) (ho : PE X o to) (ha : PA X (e :: es) t) (hb : notCall0 o = true := by rfl) (hp : plainAll (e :: es) = true := by rfl) (hl : (e :: es).length < 29 := by decide)
    (hline : (apos.endLine == pos.line) = true := by rfl) : PE X (.Call (.Attribute o m apos) (e :: es) [] pos) (wMeth X.prog X.w X.K X.mg X.base CX n m E to t) := by
  have h' : (notStar e && plainAll es) = true := hp
  rw [Bool.and_eq_true] at h'
  intro pins s σ H Q I h
  refine meth_call hb hp hl hline (thn (ho pins s σ H _ I h) fun u s1 ⟨x, H1, I1, rx, q⟩ => ?_)
  match x, q with
  | .ref a, ⟨C, dx, fs, sp, ea, l, c, q⟩ =>
    obtain rfl : u = Value.ref a := rx
    obtain ⟨f, fd, ps, cl, hm, F, b⟩ := c.ex
    refine getmeth_ok I1 ea cl hm l ?_
    refine PySem.W.callWith_K (first := [.ref a]) (h₀ := X.base) I.ok.mod.kin hm.kp (thn (ha pos pins s1 σ H1 _ I1 q) fun us s2 ⟨vs, H2, I2, r, q2⟩ => ⟨I2.kIn, ?_⟩) (starEach_c h'.1) (plain_any h'.2)
    exact run_fn (us := .ref a :: us) (vs := .ref a :: vs) (F.mono hn) hr b .nil hx I2 (.cons rfl r) (by rw [List.append_nil]; exact q2)
theorem we_meth0 (hx : Passes CX X E) (hr : Room k X.A) (hn : n ≤ k) (ho : PE X o to) (hb : notCall0 o = true := by rfl) (hline : (apos.endLine == pos.line) = true := by rfl) :
    PE X (.Call (.Attribute o m apos) [] [] pos) (wMeth X.prog X.w X.K X.mg X.base CX n m E to tNil) := by
  intro pins s σ H Q I h
  refine meth_call hb rfl (by decide) hline (thn (ho pins s σ H _ I h) fun u s1 ⟨x, H1, I1, rx, q⟩ => ?_)
  match x, q with
  | .ref a, ⟨C, dx, fs, sp, ea, l, c, q⟩ =>
    obtain rfl : u = Value.ref a := rx
    obtain ⟨f, fd, ps, cl, hm, F, b⟩ := c.ex
    refine getmeth_ok I1 ea cl hm l ?_
    exact PySem.W.callWith_K0 (first := [.ref a]) I1.kIn hm.kp (run_fn (us := [.ref a]) (vs := [.ref a]) (F.mono hn) hr b .nil hx I1 (.cons rfl .nil) q)
/-- o.f -/
def fldAt (K : PySem.W.Frag) (f : Str) (a : Addr) (H : Hp) (Q : VK) : Prop := ∃ C dx fs v, H a = some (.ins C dx fs) ∧ Cls K C ∧ NoAttr K C f ∧ fs.lookup f = some v ∧ Q v H
def wFld (K : PySem.W.Frag) (f : Str) (to : TE) : TE := fun σ H Q => to σ H fun x H1 => match x with | .ref a => fldAt K f a H1 Q | _ => False
theorem we_fld {K : PySem.W.Frag} {f : Str} (hK : X.K = K) (ho : PE X o to) (hb : notCall0 o = true := by rfl) : PE X (.Attribute o f pos) (wFld K f to) := by
  subst hK
  intro pins s σ H Q I h
  refine attr_of (base_c hb) (thn (ho pins s σ H _ I h) fun u s1 ⟨x, H1, I1, rx, q⟩ => ?_)
  match x, q with
  | .ref a, ⟨C, dx, fs, v, ea, c, n, l, q⟩ =>
    obtain rfl : u = Value.ref a := rx
    exact getattr_ok I1 ea c n l fun u' s2 I2 ru => ⟨v, H1, I2, ru, q⟩
/-- o.f = e -/
def putAt (K : PySem.W.Frag) (f : Str) (a : Addr) (y : V) (H : Hp) (R : Hp → Prop) : Prop := ∃ C dx fs, H a = some (.ins C dx fs) ∧ Cls K C ∧ NoAttr K C f ∧ fs.length < 1000 ∧ R (upd H a (.ins C dx (putF f y fs)))
def wPut (K : PySem.W.Frag) (f : Str) (to tv : TE) : TS := fun D σ H => tv σ H fun y H1 => to σ H1 fun x H2 => match x with | .ref a => putAt K f a y H2 fun H3 => D.nx σ H3 | _ => False
theorem ws_fld {K : PySem.W.Frag} {f : Str} {value : Expr} {tv : TE} {pos' : Pos} (hK : X.K = K) (ho : PE X o to) (hv : PE X value tv) (hs : swapsWith value (some (.Attribute o f pos')) pos.line X.env = pure false := by rfl) : PS X (.Assign [.Attribute o f pos'] value pos) (wPut K f to tv) := by
  subst hK
  intro pins s σ H D I h
  refine plainObj_wpAny_Assign_Attribute (thn (hv pins s σ H _ I h) fun u s1 ⟨y, H1, I1, ry, q⟩ => thn (ho pins s1 σ H1 _ I1 q) fun ov s2 ⟨x, H2, I2, rx, q2⟩ => ?_) hs
  match x, q2 with
  | .ref a, ⟨C, dx, fs, ea, c, n, l, q⟩ =>
    obtain rfl : ov = Value.ref a := rx
    exact setattr_ok I2 ea c n l ry fun s3 I3 => ⟨σ, _, I3, q⟩
theorem methAtI {P : Program} {w : World} {K : PySem.W.Frag} {mg : Str → Option Value} {base : Heap} {a C dx : Addr} {fs : List (Str × V)} {sp : Sp} {H : Hp} {kk : Sp → Prop} (h1 : H a = some (.ins C dx fs)) (h2 : fs.lookup m = none) (h3 : MCal P w K mg base CX n m C sp) (g : kk sp) : methAt P w K mg base CX n m a E H kk := ⟨C, dx, fs, sp, h1, h2, h3, g⟩
theorem fldAtI {K : PySem.W.Frag} {f : Str} {a C dx : Addr} {fs : List (Str × V)} {v : V} {H : Hp} {Q : VK} (h1 : H a = some (.ins C dx fs)) (h2 : Cls K C) (h3 : NoAttr K C f) (h4 : fs.lookup f = some v) (g : Q v H) : fldAt K f a H Q := ⟨C, dx, fs, v, h1, h2, h3, h4, g⟩
theorem putAtI {K : PySem.W.Frag} {f : Str} {a C dx : Addr} {fs : List (Str × V)} {y : V} {H : Hp} {R : Hp → Prop} (h1 : H a = some (.ins C dx fs)) (h2 : Cls K C) (h3 : NoAttr K C f) (h4 : fs.length < 1000) (g : R (upd H a (.ins C dx (putF f y fs)))) : putAt K f a y H R := ⟨C, dx, fs, h1, h2, h3, h4, g⟩
end
/-- C(..), C with __init__ -/
structure MkCal (P : Program) (w : World) (K : PySem.W.Frag) (mg : Str → Option Value) (base : Heap) (CX : CXT) (n : Nat) (x : Str) (C : Addr) (sp : Sp) : Prop where
  ex : ∃ f fd ps, Mk K C f ∧ FnOk P w K mg base CX n f fd ps sp ∧ Binds K fd ps [] ∧ mg x = some (.ref C)
section
variable {X : Cx} {CX : CXT} {e : Expr} {es : List Expr} {t : TA} {x : Str} {p pos : Pos} {n k : Nat} {E : XK} {C : Addr} {sp : Sp}
def newAt (C : Addr) (sp : Sp) (E : XK) (vs : List V) (H : Hp) (Q : VK) : Prop := ∀ a dx, H a = none → H dx = none → dx ≠ a → sp (.ref a :: (vs ++ [])) (upd (upd H dx (.own a)) a (.ins C dx [])) (fun v H2 => v = .non ∧ Q (.ref a) H2) E
def wMake (C : Addr) (sp : Sp) (E : XK) (t : TA) : TE := fun σ H Q => t σ H fun vs H1 => newAt C sp E vs H1 Q
end
end L2

set_option Elab.async false
set_option linter.all false
set_option maxRecDepth 100000
set_option maxHeartbeats 1000000
namespace L2
open PySem PySem.Spec PyProof.Rows
section
variable {X : Cx} {K : PySem.W.Frag} {a b c : Expr} {ta tb tc : TE} {pos : Pos}
/-! + of tuples too -/
def catA (K : PySem.W.Frag) (p q : Addr) (H : Hp) (Q : VK) : Prop := catL p q H Q ∨ ∃ xs ys, SqT K H p xs ∧ SqT K H q ys ∧ xs ≠ [] ∧ xs.length + ys.length ≤ sizeLine ∧ (ys = [] → Q (.ref p) H) ∧ (ys ≠ [] → ∀ l, H l = none → Q (.ref l) (upd H l (.tup (xs ++ ys))))
def wAddX (K : PySem.W.Frag) : R2 := fun x y H Q => match x, y with
  | .int i, .int j => Q (.int (i + j)) H
  | .str a, .str b => a.length + b.length ≤ sizeLine ∧ Q (.str (a ++ b)) H
  | .ref p, .ref q => catA K p q H Q
  | _, _ => False
theorem w_addX (hK : X.K = K) : OpR X (binaryOp .Add) (wAddX K) := by
  subst hK
  refine (w_add.or op_catT).imp fun x y H Q h => ?_
  cases x with
  | int i => cases y with
    | int j => exact .inl h
    | _ => exact False.elim h
  | str a => cases y with
    | str b => exact .inl h
    | _ => exact False.elim h
  | ref p => cases y with
    | ref q =>
      rcases h with h | ⟨xs, ys, h1, h2, h3, h4, h5, h6⟩
      · exact .inl h
      · exact .inr ⟨p, q, xs, ys, rfl, rfl, h1, h2, h3, h4, h5, h6⟩
    | _ => exact False.elim h
  | _ => exact False.elim h
theorem catAL {p q : Addr} {H : Hp} {Q : VK} {xs ys : List V} (h1 : H p = some (.lst xs)) (h2 : H q = some (.lst ys)) (hz : xs.length + ys.length ≤ sizeLine) (g : ∀ l, H l = none → Q (.ref l) (upd H l (.lst (xs ++ ys)))) : catA K p q H Q := .inl ⟨xs, ys, h1, h2, hz, g⟩
/-! a op b op' c -/
def wChain (r r' : R2) (ta tb tc : TE) : TE := fun σ H Q => ta σ H fun x H1 => tb σ H1 fun y H2 => r x y H2 fun z H3 => match z with | .bl k => ifB k (tc σ H3 fun w' H4 => r' y w' H4 Q) (Q (.bl false) H3) | _ => False
def wTChain (r r' : R2) (ta tb tc : TE) : TT := fun σ H Q => ta σ H fun x H1 => tb σ H1 fun y H2 => r x y H2 fun z H3 => match z with | .bl k => ifB k (tc σ H3 fun w' H4 => r' y w' H4 fun v H5 => match v with | .bl c => Q c H5 | _ => False) (Q false H3) | _ => False
/-! methods of lists -/
def clrL (a : Addr) (H : Hp) (Q : VK) : Prop := ∃ xs, H a = some (.lst xs) ∧ Q .non (upd H a (.lst []))
def wClear : V → List V → Hp → VK → Prop := fun x xs H Q => match x, xs with | .ref a, [] => clrL a H Q | _, _ => False
def rvsL (a : Addr) (H : Hp) (Q : VK) : Prop := ∃ xs, H a = some (.lst xs) ∧ Q .non (upd H a (.lst xs.reverse))
def wReverse : V → List V → Hp → VK → Prop := fun x xs H Q => match x, xs with | .ref a, [] => rvsL a H Q | _, _ => False
def extL (a b : Addr) (H : Hp) (Q : VK) : Prop := ∃ xs zs, H a = some (.lst xs) ∧ H b = some (.lst zs) ∧ xs.length + zs.length ≤ sizeLine ∧ Q .non (upd H a (.lst (xs ++ zs)))
def wExtend : V → List V → Hp → VK → Prop := fun x xs H Q => match x, xs with | .ref a, [.ref b] => extL a b H Q | _, _ => False
def popL (a : Addr) (H : Hp) (Q : VK) : Prop := ∃ xs y, H a = some (.lst xs) ∧ xs[xs.length - 1]? = some y ∧ Q y (upd H a (.lst xs.dropLast))
def wPop : V → List V → Hp → VK → Prop := fun x xs H Q => match x, xs with | .ref a, [] => popL a H Q | _, _ => False
theorem w_pop : MtR X "list.pop" wPop := by
  intro pins s σ H x xs v us Q I rx rs h
  match x, xs, h with
  | .ref a, [], ⟨ys, y, h1, h2, h3⟩ => exact mt_pop pins s σ H _ _ v us Q I rx rs ⟨a, ys, y, rfl, rfl, h1, h2, h3⟩
theorem popLI {a : Addr} {H : Hp} {Q : VK} {xs : List V} {y : V} (h : H a = some (.lst xs)) (h2 : xs[xs.length - 1]? = some y) (g : Q y (upd H a (.lst xs.dropLast))) : popL a H Q := ⟨xs, y, h, h2, g⟩
/-! str(n), max, min -/
def wStrI : List V → Hp → VK → Prop := fun xs H Q => match xs with | [.int i] => i.natAbs.log2 < 1920 ∧ Q (.str (toString i)) H | _ => False
def wMax : List V → Hp → VK → Prop := fun xs H Q => match xs with | [.int i, .int j] => Q (.int (if j > i then j else i)) H | _ => False
theorem w_max (hc : X.calm = true) : CallR X (.builtin "max") wMax := (call_max2 hc).imp fun xs H Q h => by
  match xs, h with
  | [.int i, .int j], h => exact ⟨i, j, rfl, h⟩
def wMin : List V → Hp → VK → Prop := fun xs H Q => match xs with | [.int i, .int j] => Q (.int (if j < i then j else i)) H | _ => False
theorem w_min (hc : X.calm = true) : CallR X (.builtin "min") wMin := (call_min2 hc).imp fun xs H Q h => by
  match xs, h with
  | [.int i, .int j], h => exact ⟨i, j, rfl, h⟩
end
/-! range(lo, hi, step) -/
def ItrS (lo st : Int) (n : Nat) : It := ⟨fun i _ => i < n, fun i H x H' => H' = H ∧ x = .int (lo + i * st), fun i _ => n ≤ i⟩
def wRng3 (ta : TA) : TI := fun σ H R => ta σ H fun vs H1 => match vs with
  | [.int i, .int j, .int k] => (k ≠ 0 ∧ Builtin.divisionGoesByPylong (j - i) k = false ∧ Builtin.Range.small i j k = true) ∧ R (ItrS i k (Builtin.Range.rangeSize i j k).toNat) H1
  | _ => False
end L2

set_option Elab.async false
set_option linter.all false
set_option maxRecDepth 100000
set_option maxHeartbeats 1000000
namespace L2
open PySem PySem.Spec PyProof.Rows Builtin Builtin.Str
section
variable {X : Cx} {K : PySem.W.Frag}
/-- x.split(y) -/
def wSplit : V → List V → Hp → VK → Prop := fun x xs H Q => match x, xs with
  | .str z, [.str y] => ((y.length == 0) = false ∧ z.length + 2 ≤ sizeLine) ∧ ∀ l, H l = none → Q (.ref l) (upd H l (.lst ((Txt.split z y).map V.str)))
  | _, _ => False
/-- slices, texts too -/
def wSlX (K : PySem.W.Frag) : V → Option Int → Option Int → Hp → VK → Prop := fun x lo hi H Q => match x with
  | .ref p => slSeq K p lo hi H Q
  | .str z => z.length ≤ sizeLine ∧ Q (.str (Txt.slice z lo hi)) H
  | _ => False
/-- a class of the text, by its name -/
theorem pe_gref {x : Str} {C : Addr} {pos : Pos} (hg : Gl X x) (hm : X.mg x = some (.ref C)) (hdb : (x == ("__debug__" : Str)) = false := by decide) : PE X (.Name x pos) (tC (.ref C)) := pe_glob (v := V.ref C) hg hm rfl hdb
end
theorem Same.seqT {K : PySem.W.Frag} {H H' : Hp} {a : Addr} {xs : List V} (e : Same H H') (h : SqT K H a xs) : SqT K H' a xs := by
  rcases h with (h | ⟨o, h⟩) | h
  · exact .inl (.inl (e _ _ h))
  · exact .inl (.inr ⟨o, e _ _ h⟩)
  · exact .inr h
theorem Same.upd {H : Hp} {p : Addr} {o : HO} (hp : H p = none) : Same H (upd H p o) := fun b u z => by rw [upd_ne (ne_of_none z hp)]; exact z
end L2

set_option Elab.async false
set_option linter.all false
set_option maxRecDepth 100000
set_option maxHeartbeats 1000000
namespace L2
open PySem PySem.Spec PyProof.Rows
section
variable {K : PySem.W.Frag} {H H' : Hp} {x : V}
theorem pget1 {α β : Type} {F : α → β → Prop} : ∀ {xs : List α} {ds : List β} {i : Nat} {x : α}, Paired F xs ds → xs[i]? = some x → ∃ d, ds[i]? = some d ∧ F x d
  | _, _, 0, _, .cons r _, h => ⟨_, rfl, by simp at h; exact h ▸ r⟩
  | _, _, i + 1, _, .cons _ t, h => by simpa using pget1 t (by simpa using h)
  | _, _, i, _, .nil, h => by simp at h
theorem _root_.PySem.Paired.len {α β : Type} {F : α → β → Prop} {xs : List α} {ds : List β} (h : Paired F xs ds) : xs.length = ds.length := by
  induction h with
  | nil => rfl
  | cons _ _ ih => simp [ih]
theorem _root_.PySem.Paired.get1 {α β : Type} {F : α → β → Prop} {xs : List α} {ds : List β} {i : Nat} {x : α} (h : Paired F xs ds) (e : xs[i]? = some x) : ∃ d, ds[i]? = some d ∧ F x d := pget1 h e
abbrev Dens (K : PySem.W.Frag) (H : Hp) : List V → List D → Prop := Paired (Den K H)
theorem denL {a : Addr} {xs : List V} {ds : List D} (h : SqL K H a xs) (p : Dens K H xs ds) : Den K H (.ref a) (.lst ds) :=
  .lst h p.len fun i x d h1 h2 => by obtain ⟨e, h3, r⟩ := p.get1 h1; rw [h2] at h3; cases h3; exact r
/-! data without lists does not feel a list that changes -/
mutual
def noL : D → Bool
  | .lst _ => false
  | .tup ds => noLs ds
  | _ => true
def noLs : List D → Bool
  | [] => true
  | d :: ds => noL d && noLs ds
end
/-! a list or a tuple -/
/-- a tuple of ints and texts -/
def plainD : V → Option D
  | .non => some .non
  | .bl b => some (.bl b)
  | .int i => some (.int i)
  | .str x => some (.str x)
  | _ => none
end
end L2

set_option Elab.async false
set_option linter.all false
set_option maxRecDepth 100000
set_option maxHeartbeats 1000000
namespace L2
open PySem PySem.Spec PyProof.Rows
section
variable {K : PySem.W.Frag} {H H' : Hp} {x : V} {Q : VK}
theorem Same.get {b : Addr} {o : HO} (s : Same H H') (h : H b = some o) : H' b = some o := s b o h
def mkT (xs : List V) (H : Hp) (Q : VK) : Prop := xs.length ≤ sizeLine ∧ ∀ p, H p = none → Q (.ref p) (upd H p (.tup xs))
def mkL (xs : List V) (H : Hp) (Q : VK) : Prop := xs.length ≤ sizeLine ∧ ∀ p, H p = none → Q (.ref p) (upd H p (.lst xs))
def wTupE (t : TA) : TE := fun σ H Q => t σ H fun xs H1 => mkT xs H1 Q
def wLstE (t : TA) : TE := fun σ H Q => t σ H fun xs H1 => mkL xs H1 Q
theorem we_lst {X : Cx} {es : List Expr} {t : TA} {pos : Pos} (h : PA X es t) : PE X (.List es pos) (wLstE t) := pe_lst h
theorem lstI {xs : List V} (hz : xs.length ≤ sizeLine) (g : ∀ p H', Same H H' → H p = none → H' p = some (.lst xs) → Q (.ref p) H') : mkL xs H Q :=
  ⟨hz, fun p n => g p _ (.upd n) n upd_same⟩
theorem tupLL' {p : Addr} {ys : List V} (h : SqL K H p ys) (g : ∀ p H', Same H H' → H p = none → H' p = some (.tup ys) → Q (.ref p) H') : tupL K p H Q := tupLL h fun p n => g p _ (.upd n) n upd_same
theorem szN {n : Nat} (h : n ≤ 1000000) : n ≤ sizeLine := by rw [sizeLine_eq]; omega
end
end L2
local macro_rules | `(tactic| walk_at "l3sq") => `(tactic| first
  | assumption
  | (show L2.SqT _ _ _ _; first | exact L2.SqT.of (by assumption) | exact L2.Same.seqT (by assumption) (by walk_at "l3sq"))
  | (show L2.SqL _ _ _ _; first | exact L2.SqL.of (by assumption) | exact L2.Same.seq (by assumption) (by walk_at "l3sq"))
  | (show L2.Scr _ _ _ _; exact L2.Scr.via (by assumption) (by walk_at "l3sq"))
  | (show L2.Dens _ _ _ _; exact L2.Dens.via (by assumption) (by walk_at "l3sq"))
  | (show L2.Den _ _ _ _; exact L2.Den.via (by assumption) (by walk_at "l3sq"))
  | (show _ = some _; exact L2.Same.get (by assumption) (by walk_at "l3sq")))
namespace L2
end L2
local macro_rules | `(tactic| walk_at "l3gs") => `(tactic| ((conv => whnf); first
  | (show L2.seqAt _ _ _ _ _; first | refine L2.seqAtT (by walk_at "l3sq") rfl ?_ | refine L2.seqAtL (by walk_at "l3sq") rfl ?_)
  | (show L2.seqLen _ _ _ _; first | refine L2.seqLenT (by walk_at "l3sq") ?_ | refine L2.seqLenL (by walk_at "l3sq") ?_)
  | (show L2.unpT _ _ _ _ _; refine L2.unpTI (by walk_at "l3sq") rfl ?_)
  | (show L2.spDraw _ _ _ _ _; refine L2.drawI (by walk_at "l3sq") (by omega) (by omega) (by omega) ?_)
  | (show L2.isiAny _ _ _ _ _; first | refine L2.isiAnyI rfl (.tup (by walk_at "l3sq")) rfl ?_ | refine L2.isiAnyI rfl (.lst (by walk_at "l3sq")) rfl ?_)
  | (show L2.ifB _ _ _; first | refine L2.ifDt (by first | assumption | decide | omega) ?_ | refine L2.ifDf (by first | assumption | decide | omega) ?_ | refine L2.ifNt (by first | assumption | decide | omega) ?_ | refine L2.ifNf (by first | assumption | decide | omega) ?_ | refine L2.ifB_t (by first | assumption | decide) ?_ | refine L2.ifB_f (by first | assumption | decide) ?_)
  | (show L2.tyV _ _ _ _ ∧ _; refine ⟨.inl ⟨rfl, _, by walk_at "l3sq"⟩, ?_⟩)
  | (show L2.CDiv _ _ ∧ _; refine ⟨L2.cdivI (by decide) (by decide), ?_⟩)
  | (show L2.CMul _ _ ∧ _; refine ⟨L2.cmul_l (by first | decide | omega) (by first | decide | omega), ?_⟩)))
local macro_rules | `(tactic| walk_at "l3go") => `(tactic| ((repeat (walk_at "l3gs")); conv => whnf))
local macro_rules | `(tactic| walk_at "l3gc") => `(tactic| (walk_at "l3go"; refine L2.cutE (by walk_at "l3go"; exact ⟨rfl, rfl⟩) ?_))
local macro_rules | `(tactic| walk_at "l3gr") => `(tactic| first | refine L2.ifB_f rfl ?_ | refine L2.ifB_t rfl ?_)
namespace L2
open PySem PySem.Spec PyProof.Rows
section
variable {X : Cx} {K : PySem.W.Frag} {H : Hp} {Q : VK}
/-! () + t is t -/
theorem cat_tup0 {prog : Program} {w : World} {A : Around} {E : Value → Shared → Prop} {s : Shared} {t b : Addr} {ws : List Value} {Q : Value → Shared → Prop} (ht : IsTup s.heap t (#[] : Array Value)) (hb : IsTup s.heap b ws.toArray) (h : Q (.ref b) s) : wpAny (model prog w) A (binaryOp .Add (.ref t) (.ref b)) Q E s := by
  obtain ⟨⟨cls, dd, data, sl⟩, ho, hc, n, hd⟩ := id ht
  obtain ⟨⟨cls2, dd2, data2, sl2⟩, ho2, hc2, n2, hd2⟩ := id hb
  simp only at hc hd hc2 hd2
  subst hc hd hc2 hd2
  exact concat_meets ⟨_, ho, rfl⟩ ⟨_, ho2, rfl⟩ noFill_tuple_add seq_tuple_add PySem.F.slot_tuple_add PySem.F.entry_tuple_add (PySem.F.args_tuple_add_2 _ _) (tuple_addW0 t b #[] ws.toArray n n2 dd dd2 sl sl2 (by simp)) ⟨ho, ho2, h⟩
def rCat0 (K : PySem.W.Frag) : R2 := fun x y H Q => ∃ a b ys, x = .ref a ∧ y = .ref b ∧ SqT K H a [] ∧ SqT K H b ys ∧ Q (.ref b) H
theorem op_cat0 : OpR X (binaryOp .Add) (rCat0 X.K) := by
  intro pins s σ H x y v u Q I rx ry h
  obtain ⟨a, b, ys, rfl, rfl, ha, hb, q⟩ := h
  cases rx
  cases ry
  obtain ⟨its, r1, p1, _⟩ := I.tuple ha
  obtain ⟨its2, r2, p2, _⟩ := I.tuple hb
  cases r1
  exact cat_tup0 p1 p2 ⟨.ref b, H, I, rfl, q⟩
def catB (K : PySem.W.Frag) (p q : Addr) (H : Hp) (Q : VK) : Prop := catA K p q H Q ∨ ∃ ys, SqT K H p [] ∧ SqT K H q ys ∧ Q (.ref q) H
def wAddY (K : PySem.W.Frag) : R2 := fun x y H Q => match x, y with
  | .int i, .int j => Q (.int (i + j)) H
  | .str a, .str b => a.length + b.length ≤ sizeLine ∧ Q (.str (a ++ b)) H
  | .ref p, .ref q => catB K p q H Q
  | _, _ => False
theorem w_addY (hK : X.K = K) : OpR X (binaryOp .Add) (wAddY K) := by
  subst hK
  refine ((w_addX rfl).or op_cat0).imp fun x y H Q h => ?_
  cases x with
  | int i => cases y with
    | int j => exact .inl h
    | _ => exact False.elim h
  | str a => cases y with
    | str b => exact .inl h
    | _ => exact False.elim h
  | ref p => cases y with
    | ref q =>
      rcases h with h | ⟨ys, h1, h2, h3⟩
      · exact .inl h
      · exact .inr ⟨p, q, ys, rfl, rfl, h1, h2, h3⟩
    | _ => exact False.elim h
  | _ => exact False.elim h
theorem catBL {p q : Addr} {xs ys : List V} (h1 : H p = some (.lst xs)) (h2 : H q = some (.lst ys)) (hz : xs.length + ys.length ≤ sizeLine) (g : ∀ l H', Same H H' → H l = none → H' l = some (.lst (xs ++ ys)) → Q (.ref l) H') : catB K p q H Q := .inl (catAL h1 h2 hz fun l n => g l _ (.upd n) n upd_same)
end
end L2

set_option Elab.async false
set_option linter.all false
set_option maxRecDepth 100000
set_option maxHeartbeats 1000000
namespace L2
open PySem PySem.Spec PyProof.Rows
/-! ### f"..." -/
abbrev TJ := Str → St → Hp → (Str → Hp → Prop) → Prop
section
variable {X : Cx} {es : List Expr} {t : TJ} {te : TE} {e : Expr} {pos : Pos}
def PJ (X : Cx) (es : List Expr) (t : TJ) : Prop := ∀ (pins : List (Addr × Obj)) (s : Shared) (σ : St) (H : Hp) (acc : Str) (Q : Str → Hp → Prop), Inv X pins σ H s → t acc σ H Q →
  Joins (model X.prog X.w) X.A X.xe (evalEach es X.env) acc (fun out s1 => ∃ H1, Inv X pins σ H1 s1 ∧ Q out H1) s
def jNil : TJ := fun acc σ H Q => Q acc H
def jStr (c : Str) (t : TJ) : TJ := fun acc σ H Q => (acc ++ c).length ≤ sizeLine ∧ t (acc ++ c) σ H Q
/-- {e} of a text or a whole number -/
def jFmt (te : TE) (t : TJ) : TJ := fun acc σ H Q => te σ H fun x H1 => match x with
  | .str y => y.length ≤ sizeLine ∧ (acc ++ y).length ≤ sizeLine ∧ t (acc ++ y) σ H1 Q
  | .int i => i.natAbs.log2 < 1920 ∧ (acc ++ Str.ofString (toString i)).length ≤ sizeLine ∧ t (acc ++ Str.ofString (toString i)) σ H1 Q
  | _ => False
/-- {e!r} of a text -/
def jRep (te : TE) (t : TJ) : TJ := fun acc σ H Q => te σ H fun x H1 => match x with
  | .str y => (reprText y).length ≤ sizeLine ∧ (acc ++ reprText y).length ≤ sizeLine ∧ t (acc ++ reprText y) σ H1 Q
  | _ => False
def tJoin (t : TJ) : TE := fun σ H Q => t Str.empty σ H fun out H1 => out.length ≤ sizeLine ∧ Q (.str out) H1
end
/-! the length of a repr -/
def Asc (x : Str) : Prop := ∀ c ∈ x.cps.toList, c < 128
/-! ### any, startswith -/
section
variable {X : Cx} {K : PySem.W.Frag}
def anyL (K : PySem.W.Frag) (a : Addr) (H : Hp) (Q : VK) : Prop := ∃ bs : List Bool, SqL K H a (List.map V.bl bs) ∧ Q (.bl (bs.any _root_.id)) H
def wAny (K : PySem.W.Frag) : List V → Hp → VK → Prop := fun xs H Q => match xs with | [.ref a] => anyL K a H Q | _ => False
def startsB (x y : Str) : Bool := decide (0 + y.length ≤ x.length) && Builtin.Str.subAt x y 0
def wStarts : V → List V → Hp → VK → Prop := fun x xs H Q => match x, xs with | .str z, [.str y] => Q (.bl (startsB z y)) H | _, _ => False
end
end L2

set_option Elab.async false
set_option linter.all false
set_option maxRecDepth 100000
set_option maxHeartbeats 1000000
namespace L2
open PySem PySem.Spec PyProof.Rows
def clsAt : Stmt → Nat → Stmt
  | .ClassDef _ _ _ body _ _ _ _ _ _ _, j => body.getD j (.Pass ⟨0, 0, 0, 0⟩)
  | s, _ => s
structure InsK (K : PySem.W.Frag) (C : Addr) : Prop where
  cl : Cls K C
  ha : PySem.W.findIn K (.ref C) "__class__" = some (some (.builtin "object.__class__"))
  hn : PySem.W.specialIn K (.builtin "object.__class__") "__get__" = some (some (.builtin "getset_descriptor.__get__"))
  htk : PySem.W.takesIn K (.builtin "object.__class__") = some true
  hm : PySem.W.mroIn K C (.type "object") = some true
/-- C() of a class without __init__ -/
structure Mk0 (K : PySem.W.Frag) (C : Addr) : Prop where
  makes : PySem.W.makesIn K C = true
  init : PySem.W.findIn K (.ref C) "__init__" = some (some (.builtin "object.__init__"))
  kp : PySem.W.keepIn K (.ref C) = true
section
variable {X : Cx} {C : Addr} {x : Str} {p pos : Pos}
def tMk0 (C : Addr) : TE := fun _ H Q => ∀ a dx, H a = none → H dx = none → dx ≠ a → Q (.ref a) (upd (upd H dx (.own a)) a (.ins C dx []))
end
theorem same_made {H : Hp} {a dx : Addr} {o : HO} (h1 : H a = none) (h2 : H dx = none) : Same H (upd (upd H dx (.own a)) a o) := fun b u z => by
  rw [upd_ne (fun e => by rw [e, h1] at z; cases z), upd_ne (fun e => by rw [e, h2] at z; cases z)]; exact z
end L2

set_option Elab.async false
set_option linter.all false
set_option maxRecDepth 100000
set_option maxHeartbeats 1000000
namespace L2
open PySem PySem.Spec PyProof.Rows
/-! ### x in a list or tuple of data -/
def absU : Value → Option V
  | .none => some .non
  | .bool b => some (.bl b)
  | .int i _ => some (.int i)
  | .str x _ => some (.str x)
  | .bytes b _ => some (.byt b)
  | .float b _ => some (.flt b)
  | .ref a => some (.ref a)
  | .type n => some (.ty n)
  | _ => none
section
variable {X : Cx} {K : PySem.W.Frag}
open Classical in
noncomputable def eqUD (K : PySem.W.Frag) (H : Hp) (e : D) (u : Value) : Bool := if h : ∃ d, ∃ x, RelV x u ∧ Den K H x d then eqD h.choose e else false
def rInD (K : PySem.W.Frag) : R2 := fun x y H Q => ∃ p xs ds e, y = .ref p ∧ (SqL K H p xs ∨ SqT K H p xs) ∧ Dens K H xs ds ∧ Den K H x e ∧ (∀ d ∈ ds, dep d ≤ 50) ∧ Q (.bl (ds.any fun d => eqD d e)) H
def seqInD (K : PySem.W.Frag) (x : V) (p : Addr) (H : Hp) (Q : VK) : Prop := ∃ xs ds e, (SqL K H p xs ∨ SqT K H p xs) ∧ Dens K H xs ds ∧ Den K H x e ∧ (∀ d ∈ ds, dep d ≤ 50) ∧ Q (.bl (ds.any fun d => eqD d e)) H
def wInD (K : PySem.W.Frag) : R2 := fun x y H Q => match y with | .ref p => seqInD K x p H Q | _ => False
end
end L2

set_option Elab.async false
set_option linter.all false
set_option maxRecDepth 100000
set_option maxHeartbeats 1000000
namespace L2
open PySem PySem.Spec PyProof.Rows
/-! ### C(..) whose __init__ may raise: in a try, and where it doesn't -/
section
variable {X : Cx} {x : Str} {p pos : Pos} {e : Expr} {es : List Expr} {t : TA} {ps : List Str} {sp : Sp} {n m : Nat} {E : XK} {C : Addr}
def noE : XK := fun _ _ _ => False
end
end L2
namespace L2
open PySem PySem.Spec PyProof.Rows
section
variable {X : Cx} {CX : CXT} {o e : Expr} {es : List Expr} {to : TE} {t : TA} {m : Str} {apos pos : Pos} {n k : Nat} {E : XK} {P : Program} {w : World} {K : PySem.W.Frag} {mg : Str → Option Value} {base : Heap}
end
end L2

set_option Elab.async false
set_option linter.all false
set_option maxRecDepth 100000
set_option maxHeartbeats 1000000
namespace L2
open PySem PySem.Spec PyProof.Rows
/-! ### the codes of a slice of a text -/
end L2

set_option Elab.async false
set_option linter.all false
set_option maxRecDepth 100000
set_option maxHeartbeats 1000000
namespace L2
open PySem PySem.Spec PyProof.Rows
/-! ### "..", t.replace("..", "..") in a list: the tokens of the two texts are new -/
section
variable {X : Cx} {es : List Expr} {t : TA} {x c y z : Str}
def PAt (X : Cx) (es : List Expr) (t : TA) : Prop :=
  ∀ (pos : Pos) (pins : List (Addr × Obj)) (s : Shared) (σ : St) (H : Hp) (Q : List V → Hp → Prop), 0 < s.toks → Inv X pins σ H s → t σ H Q → wpAny (model X.prog X.w) X.A (spliced (backTo pos (starEach es X.env))) (AP X pins σ Q) X.xe s
def repV (s y z : Str) : Str := if ((Builtin.Str.occurrences s y 0 s.length (s.length + 1)).isEmpty || (y.length == 0 && z.length == 0)) = true then s else Builtin.Str.glued z (Builtin.Str.partsBetween s (Builtin.Str.occurrences s y 0 s.length (s.length + 1)) y.length)
def wRep (i : Nat) (y z : Str) : TE := fun σ H Q => match σ[i]? with
  | some (some (.str s)) => (y == z) = false ∧ Builtin.Str.tooLong (s.length + (Builtin.Str.occurrences s y 0 s.length (s.length + 1)).length * z.length) = false ∧ (repV s y z).length ≤ sizeLine ∧ Q (.str (repV s y z)) H
  | _ => False
end
end L2

set_option Elab.async false
set_option linter.all false
set_option maxRecDepth 100000
set_option maxHeartbeats 1000000
namespace L2
open PySem PySem.Spec PyProof.Rows PySem.W

/-! ### own exceptions with an __init__ of their own -/
def excJ (K : Frag) (C : Addr) (bmB : List Value) (newId : String) : Bool := match K.lookup C with
  | some ⟨.type "type", _, .cls cd, sl⟩ => (match cd.mro, sl.toList with
    | .ref C' :: bm, [_, _, _, _, some (.builtin n), _] => C' == C && n == newId && !cd.hasDel && tailIn K bmB bm && nsOkIn K cd.ns && cd.hasDict
    | _, _ => false)
  | _ => false
abbrev VEs : List Value := [.type "ValueError", .type "Exception", .type "BaseException", .type "object"]
section
variable {prog : Program} {w : World} {A : Around} {E : Value → Shared → Prop} {K : Frag} {C f : Addr}
end
/-! ### a new exception, while its __init__ runs -/
def excN (a : Addr) (cls : Value) (dd : Option Addr) : HO := .ext fun h => ∃ oe vs, h.get? a = some oe ∧ oe.cls = cls ∧ oe.dict = dd ∧ oe.data = .fields vs ∧ vs[1]? = some .none ∧ vs[2]? = some .none
/-- what the base class must have to be called B.__init__(self, ..) -/
structure BaseI (K : Frag) (B : Addr) : Prop where
  rd : readsIn K B (.type "type") = true
  at_ : findCls K (.ref B) (.type "type") "__init__" = some (.val (.builtin "ValueError.__init__"))
  ga : specialIn K (.ref B) "__getattribute__" = some (some (.builtin "type.__getattribute__"))
def initAt (K : Frag) (vs : List V) (H : Hp) (R : Hp → Prop) : Prop := ∃ a v C, vs = [.ref a, v] ∧ H a = some (excN a (.ref C) none) ∧ excJ K C VEs "ValueError.__new__" = true ∧ R H
def tBInit (K : Frag) (t : TA) : TE := fun σ H Q => t σ H fun vs H1 => initAt K vs H1 fun H2 => Q .non H2
section
variable {X : Cx} {B : Addr} {x : Str} {np apos pos : Pos} {e1 e2 : Expr} {t : TA}
end
end L2
namespace L2
open PySem PySem.Spec PyProof.Rows PySem.W
section
variable {X : Cx} {B : Addr} {x : Str} {np apos pos : Pos} {e1 : Expr} {es : List Expr} {t : TA}
end
/-! ### self.f = v, of a new exception -/
def xputAt (K : Frag) (f : Str) (a : Addr) (y : V) (H : Hp) (R : Hp → Prop) : Prop := ∃ C, H a = some (excN a (.ref C) none) ∧ excJ K C VEs "ValueError.__new__" = true ∧ findIn K (.ref C) "__setattr__" = some (some (.builtin "object.__setattr__")) ∧ findIn K (.ref C) f = some none ∧ mroIn K C (.type "object") = some true ∧
  ∀ d, H d = none → d ≠ a → R (upd (upd H a (excN a (.ref C) (some d))) d (.xd [(f, y)]))
def tXPut (K : Frag) (f : Str) (to tv : TE) : TS := fun D σ H => tv σ H fun y H1 => to σ H1 fun x H2 => match x with | .ref a => xputAt K f a y H2 fun H3 => D.nx σ H3 | _ => False
section
variable {X : Cx} {o value : Expr} {to tv : TE} {f : Str} {pos pos' : Pos}
end
/-! ### raise C(..), C with an __init__ -/
end L2

set_option Elab.async false
set_option linter.all false
set_option maxRecDepth 100000
set_option maxHeartbeats 1000000
namespace L2
open PySem PySem.Spec PyProof.Rows PySem.W
def spXI (C : Addr) (fld : Str) : Sp := fun vs H Q _ => ∃ a v, vs = [.ref a, v] ∧ H a = some (excN a (.ref C) none) ∧ ∀ d, H d = none → d ≠ a → Q .non (upd (upd H a (excN a (.ref C) (some d))) d (.xd [(fld, v)]))
structure XI (K : Frag) (C f : Addr) : Prop where
  j : excJ K C VEs "ValueError.__new__" = true
  init : findIn K (.ref C) "__init__" = some (some (.ref f))
  fn : isFn K (.ref f) = true
  kp : keepIn K (.ref C) = true
structure XMk (P : Program) (w : World) (K : Frag) (mg : Str → Option Value) (base : Heap) (n : Nat) (x : Str) (C : Addr) (fld : Str) : Prop where
  ex : ∃ f fd ps, XI K C f ∧ FnOk P w K mg base CX0 n f fd ps (spXI C fld) ∧ Binds K fd ps [] ∧ mg x = some (.ref C)
def tRaiseI (C : Addr) (fld : Str) (E : XK) (t : TA) : TS := fun _ σ H => t σ H fun vs H1 => ∃ v, vs = [v] ∧ ∀ d, H1 d = none → E (.ref C) (some d) (upd H1 d (.xd [(fld, v)]))
section
variable {M : Model} {A : Around} {E : Value → Shared → Prop} {env : Env} {nm q : Str} {C N : Addr} {bs bm : List Value} {hdct : Bool} {sn : List Str} {sub : List Value} {ab : Bool} {col : Option Bool} {dd : Option Addr} {k0 k1 k2 k3 k5 : Option Value} {newId : String}
end
section
variable {X : Cx} {C : Addr} {x fld : Str} {np cpos pos : Pos} {e : Expr} {es : List Expr} {t : TA} {E : XK} {n k : Nat}
end
end L2

set_option Elab.async false
set_option linter.all false
set_option maxRecDepth 100000
set_option maxHeartbeats 1000000
namespace L2
open PySem PySem.Spec PyProof.Rows PySem.W
/-! ### a field of an exception, read -/
section
variable {prog : Program} {w : World} {A : Around} {E : Value → Shared → Prop} {s : Shared} {K : Frag} {x D : Addr} {ox : Obj} {odo : Option Obj} {name : Str} {v : Value}
end
def xfldAt (K : Frag) (f : Str) (a : Addr) (H : Hp) (Q : VK) : Prop := ∃ D d fs v, H a = some (excO a (.ref D) (some d)) ∧ H d = some (.xd fs) ∧ ExcK K D ∧ hasDictIn K D = true ∧ findIn K (.ref D) f = some none ∧ fs.lookup f = some v ∧ Q v H
def wXFld (K : Frag) (f : Str) (to : TE) : TE := fun σ H Q => to σ H fun x H1 => match x with | .ref a => xfldAt K f a H1 Q | _ => False
/-! ### except C as n, over exceptions with fields -/
def CatchesJ (K : Frag) (cls : Value) (C : Addr) : Prop := Catches K cls C true ∨ ∃ D, cls = .ref D ∧ excJ K D VEs "ValueError.__new__" = true ∧ mroIn K D (.ref C) = some true
def tTryAsJ (K : Frag) (C : Addr) (j : Nat) (t : XK → TS) (u : Addr → TS) : TS := fun D σ H => ∃ M : XK, t M D σ H ∧ ∀ cls dd H1, M cls dd H1 → CatchesJ K cls C ∧ ∀ a, H1 a = none → u a (offJ D j) (σ.set j (some (.ref a))) (upd H1 a (excO a cls dd))
end L2

set_option Elab.async false
set_option linter.all false
set_option maxRecDepth 100000
set_option maxHeartbeats 1000000
namespace L2
open PySem PySem.Spec PySem.Calls PyProof.Rows PySem.W Att
/-- * of great numbers -/
def wMulB : R2 := fun x y H Q => match x, y with
  | .int i, .int j => IntMulOk i j ∧ Q (.int (i * j)) H
  | _, _ => False
end L2

set_option Elab.async false
set_option linter.all false
set_option maxRecDepth 100000
set_option maxHeartbeats 1000000
namespace L2
open PySem PySem.Spec PyProof.Rows
open Sem (wp) in
def compPostX (M : Model) (A : Around) (E : Value → Shared → Prop) (use : Option (Value → Sem Unit)) (Q : Value → Shared → Prop) (acc : Value) (cenv : Env) (r : Result) (s' : Shared) : Prop :=
  match r, use with
  | .ok _, none => ∃ m, s'.heap.Ns cenv.locals m ∧ ∀ h', Heap.SameBut cenv.locals s'.heap h' → Q acc { s' with heap := h' }
  | .ok _, some u => wpAny M A (u acc) (fun _ s'' => ∃ m, s''.heap.Ns cenv.locals m ∧ ∀ h', Heap.SameBut cenv.locals s''.heap h' → Q .none { s'' with heap := h' }) E s'
  | .error x, _ => ∃ m, s'.heap.Ns cenv.locals m ∧ ∀ h', Heap.SameBut cenv.locals s'.heap h' → ∀ cenv' : Env, cenv'.locals = cenv.locals → cenv'.frame = cenv.frame → wpAny M A (passOn "comprehension.variables-let-go" x cenv' : Sem Value) (fun _ _ => False) E { s' with heap := h' }
section
variable {M : Model} {A : Around} {E : Value → Shared → Prop} {s : Shared} {env : Env}
end
def cmpWX (EX : XK) (J : It) (pk : List (Option Nat)) (g : TG) (tt : TT) (te : XK → TE) (σ : St) (H : Hp) (Q : VK) : Prop := ∃ W : Nat → Nat → List V → Hp → Prop, (∃ m, W 0 m [] H) ∧ ∀ i m ys H, W i m ys H →
  (J.stop i H ∧ ys.length ≤ sizeLine ∧ ∀ p, H p = none → Q (.ref p) (upd H p (.lst ys))) ∨
  (J.go i H ∧ ys.length < sizeLine ∧ ∃ N : List V → Hp → Prop, (∀ zs H', N zs H' → ∃ m', m' < m ∧ W (i + 1) m' zs H') ∧ ∀ x H', J.yld i H x H' → g x (pick pk σ) H' fun σ2 H2 => Sup (pick pk σ) σ2 ∧ tt σ2 H2 fun b H3 =>
    if b = true then te (fun cls dd H4 => ∀ p zs, H4 p = none → EX cls dd (upd H4 p (.lst zs))) σ2 H3 fun v H4 => N (ys ++ [v]) H4 else N ys H3)
def tSetCX (EX : XK) (i : Nat) (pk : List (Option Nat)) (wi : TI) (g : TG) (tt : TT) (te : XK → TE) : TS := fun D σ H => wi σ H fun J H1 => cmpWX EX J pk g tt te σ H1 fun x H2 => gName i x σ H2 D.nx
section
variable {X : Cx} {scope : Scope} {N' : List Str} {pk : List (Option Nat)} {tg elt iter : Expr} {ifs : List Expr} {pos : Pos} {wi : TI} {g : TG} {tt : TT} {te : XK → TE} {EX : XK} {L : Addr}
end
end L2

set_option Elab.async false
set_option linter.all false
set_option maxRecDepth 100000
set_option maxHeartbeats 1000000
namespace L2
open PySem PySem.Spec PyProof.Rows PySem.StrLaws Builtin.Str
/-! ### split of a joined text -/
def jn (sp : List Nat) : List (List Nat) → List Nat
  | [] => []
  | [p] => p
  | p :: q :: r => p ++ sp ++ jn sp (q :: r)
end L2

set_option Elab.async false
set_option linter.all false
set_option maxRecDepth 100000
set_option maxHeartbeats 1000000
namespace L2
open PySem PySem.Spec PyProof.Rows
section
variable {X : Cx}
/-! ### str of a text or a number -/
def wStrA : List V → Hp → VK → Prop := fun xs H Q => match xs with
  | [.int i] => i.natAbs.log2 < 1920 ∧ Q (.str (toString i)) H
  | [.str x] => Q (.str x) H
  | _ => False
end
/-! ### a def whose last parameters have defaults -/
structure FunD (K : PySem.W.Frag) (x qual : Str) (st : Stmt) (T f : Addr) (fd : FuncData) : Prop where
  ex : ∃ (oc : Value) (od : Option Addr) (kV doc pm : Value) (an : Option Addr) (cdv ct : Value) (osl : Array (Option Value)),
    fd = PySem.W.fnOf x qual (defArgs st) (defBody st) (defScope st) (.ref T) kV doc pm an cdv ct ∧ K.lookup f = some ⟨oc, od, .func fd, osl⟩ ∧ PySem.W.codeIn K cdv qual = true
structure CalD (P : Program) (w : World) (K : PySem.W.Frag) (mg : Str → Option Value) (base : Heap) (n : Nat) (x : Str) (ps : List Str) (dvs : List V) (sp : Sp) : Prop where
  ex : ∃ f fd ds, FnOk P w K mg base (CXE P w) n f fd ps sp ∧ Binds K fd ps ds ∧ Vals dvs ds ∧ PySem.W.keepIn K (.ref f) = true ∧ mg x = some (.ref f)
section
variable {X : Cx} {x : Str} {p pos : Pos} {e : Expr} {es : List Expr} {t : TA} {ps : List Str} {sp : Sp} {n m : Nat} {E : XK} {dvs : List V} {ds : List Value}
end
end L2

set_option Elab.async false
set_option linter.all false
set_option maxRecDepth 100000
set_option maxHeartbeats 1000000
namespace L2
open PySem PySem.Spec PyProof.Rows
/-! ### a function told as a value, and its call by a local name -/
/-- a value that is a function of the text, with its promise -/
def FnV (P : Program) (w : World) (K : PySem.W.Frag) (mg : Str → Option Value) (base : Heap) (n : Nat) (f : Addr) (ps : List Str) (sp : Sp) : Prop :=
  ∃ fd, FnOk P w K mg base CX0 n f fd ps sp ∧ Binds K fd ps [] ∧ PySem.W.keepIn K (.ref f) = true
section
variable {X : Cx} {x : Str} {p pos : Pos} {e : Expr} {es : List Expr} {t : TA} {n m : Nat}
/-- the reading: whichever function the name holds, by its own promise -/
def tCallV (P : Program) (w : World) (K : PySem.W.Frag) (mg : Str → Option Value) (base : Heap) (m : Nat) (i : Nat) (t : TA) : TE := fun σ H Q => ∃ f n ps sp, σ[i]? = some (some (.ref f)) ∧ n ≤ m ∧ FnV P w K mg base n f ps sp ∧ t σ H fun vs H1 => sp vs H1 Q E0
end
end L2

set_option Elab.async false
set_option linter.all false
set_option maxRecDepth 100000
set_option maxHeartbeats 1000000
namespace L2
open PySem PySem.Spec PySem.Calls PyProof.Rows PySem.W Att
/-- the builtins as a module sees them -/
def BltIn (base : Heap) (mg : Str → Option Value) : Prop := ∃ bm o, mg "__builtins__" = some (.ref bm) ∧ bm ≠ builtinsNs ∧ bm ≠ mainGlobals ∧ base.get? bm = some o ∧ o.cls = .type "module" ∧ o.dict = some builtinsNs ∧ o.data = .plain
end L2

set_option Elab.async false
set_option linter.all false
set_option maxRecDepth 100000
set_option maxHeartbeats 1000000
namespace L2
open PySem PySem.Spec PySem.Calls PyProof.Rows PySem.W
/-! ### what a lambda leaves behind -/
/-- a code object; a function object; a cell that is left behind -/
def CodO (c : Addr) (q : Str) : HO := .ext fun h => h.CodeRec (.ref c) q
def LamO (a : Addr) (o : Obj) : HO := .ext fun h => h.get? a = some o
def CelO (c : Addr) (v : V) : HO := .ext fun h => ∃ u, RelV v u ∧ h.IsCell c (some u)
section
variable {P : Program} {w : World} {H : Hp} {h : Heap}
end
/-- a table whose entries are known codes -/
def TabAt (H : Hp) (P : Addr) (q : Str) : Prop := ∃ ps, H P = some (.tbl ps) ∧ TriplesOk ps.toList ∧ ∀ pos cv, codeAmong pos ps.toList = some cv → ∃ c', cv = .ref c' ∧ H c' = some (CodO c' q)
/-- all but the thing at P is as it was -/
def SameP (P : Addr) (H H' : Hp) : Prop := ∀ b o, b ≠ P → H b = some o → H' b = some o
/-- all but the tables is as it was -/
def SameN (H H' : Hp) : Prop := ∀ b o, (∀ ps, o ≠ .tbl ps) → H b = some o → H' b = some o
/-! ### a lambda -/
def tLam (P : Addr) (q : Str) (mk : Addr → Value → Obj) : TE := fun σ H Q => TabAt H P q ∧ ∀ f c' ctv H', SameP P H H' → H f = none → H' f = some (LamO f (mk c' ctv)) → H' c' = some (CodO c' q) → TabAt H' P q → Q (.ref f) H'
end L2

set_option Elab.async false
set_option linter.all false
set_option maxRecDepth 100000
set_option maxHeartbeats 1000000
namespace L2
open PySem PySem.Spec PySem.Calls PyProof.Rows PySem.W
/-! ### the call of a function that a lambda made -/
structure LamScope (ps fs : List Str) (sc : Scope) : Prop where
  kind : sc.kind = .function
  co : sc.isCoroutine = false
  gen : sc.isGenerator = false
  nd : (ps ++ fs).Nodup
  par : ∀ x ∈ ps, sc.names.lookup x = some .local
  fre : ∀ x ∈ fs, sc.names.lookup x = some .free
  nocell : ∀ x ∈ sc.names, x.2 ≠ .cell
  only : ∀ y ∈ sc.names, y.2 = .free → y.1 ∈ fs
def cxL (P : Program) (w : World) (K : Frag) (mg : Str → Option Value) (base : Heap) (N : List Str) (qual : Str) (scope : Scope) (f : Addr) (cd : Value) (cl : List (Str × Addr)) (A : Around) (outer : List Env) (s : Shared) (H : Hp) : Cx where
  prog := P
  w := w
  K := K
  mg := mg
  base := base
  A := A.deeper (envX qual scope s.heap.objs.size f cd cl)
  N := N
  s₀ := s
  H₀ := H
  env := envX qual scope s.heap.objs.size f cd cl
  outer := outer
  stack := envX qual scope s.heap.objs.size f cd cl :: outer
  ex := []
  calm := true
  fn := fun _ => false
  pn := []
  xe := fun _ _ => False
/-! ### things of one object hidden for a while -/
def hid (cs : List Addr) (H : Hp) : Hp := fun b => if b ∈ cs then none else H b
def unhid (cs : List Addr) (H H2 : Hp) : Hp := fun b => if b ∈ cs then H b else H2 b
end L2

set_option Elab.async false
set_option linter.all false
set_option maxRecDepth 100000
set_option maxHeartbeats 1000000
namespace L2
open PySem PySem.Spec PySem.Calls PyProof.Rows PySem.W
/-! ### a value that may be called -/
structure CalV (P : Program) (w : World) (K : Frag) (mg : Str → Option Value) (base : Heap) (n : Nat) (f : Addr) (sp : Sp) : Prop where
  run : ∀ (A : Around) (outer : List Env) (s : Shared) (H : Hp) (us : List Value) (vs : List V) (Q : VK) (E : XK), Room n A → Env0 P w K mg base A outer s H → Vals vs us → sp vs H Q E → codeAny (model P w) A (.call (.ref f) ⟨us, []⟩) (CR CX0 outer P w H s Q E) s
  keep : ∀ (vs : List V) (H : Hp) (Q : VK) (E : XK) (h : Heap), sp vs H Q E → HOk P w H h → K.In h → ∃ k, (k = Keeper.frame ∨ k = Keeper.machine ∨ k = Keeper.boundFrame) ∧ Looks (model P w) h (keeperOf (.ref f)) k
section
variable {X : Cx} {x : Str} {p pos : Pos} {e : Expr} {es : List Expr} {t : TA} {n m : Nat}
def tCallW (P : Program) (w : World) (K : Frag) (mg : Str → Option Value) (base : Heap) (m : Nat) (i : Nat) (t : TA) : TE := fun σ H Q => ∃ f n sp, σ[i]? = some (some (.ref f)) ∧ n ≤ m ∧ CalV P w K mg base n f sp ∧ t σ H fun vs H1 => sp vs H1 Q E0
end
/-! ### a function made by a lambda, its cells left behind by a def that has returned -/
def spLam (P : Program) (w : World) (f c' : Addr) (obj : Obj) (q : Str) (cl : List (Str × Addr)) (fs : List Str) (fvs : List V) (m : Nat) (sp : List V → Hp → VK → Prop) : Sp := fun vs H Q _ => H f = some (LamO f obj) ∧ H c' = some (CodO c' q) ∧ (∀ (i : Nat) x v, fs[i]? = some x → fvs[i]? = some v → ∃ c, cl.lookup x = some c ∧ H c = some (CelO c v)) ∧ vs.length = m ∧ sp vs H Q
/-! ### a def that is one lambda -/
def spMk (P : Addr) (q : Str) (x : Str) (mk : List (Str × Addr) → Addr → Value → Obj) : Sp := fun vs H Q _ => ∃ v, vs = [v] ∧ TabAt H P q ∧ ∀ f c' ctv c H', SameP P H H' → H f = none → H' f = some (LamO f (mk [(x, c)] c' ctv)) → H' c' = some (CodO c' q) → H' c = some (CelO c v) → TabAt H' P q → Q (.ref f) H'
end L2

set_option Elab.async false
set_option linter.all false
set_option maxRecDepth 100000
set_option maxHeartbeats 1000000
namespace L2
open PySem PySem.Spec PySem.Calls PyProof.Rows PySem.W
/-! ### a raising def where nothing is raised -/
/-! ### list(range(n)) -/
def lRng (j : Int) (H : Hp) (Q : VK) : Prop := ∃ n : Nat, Builtin.Range.small 0 j 1 = true ∧ Builtin.Range.rangeSize 0 j 1 = n ∧ n ≤ 1000 ∧ ∀ l, H l = none → Q (.ref l) (upd H l (.lst ((List.range n).map fun i : Nat => V.int (i : Int))))
def wLRng (te : TE) : TE := fun σ H Q => te σ H fun x H1 => match x with
  | .int j => lRng j H1 Q
  | _ => False
end L2

set_option Elab.async false
set_option linter.all false
set_option maxRecDepth 100000
set_option maxHeartbeats 1000000
namespace L2
open PySem PySem.Spec PySem.Calls PyProof.Rows PySem.W
/-! ### min(xs, key=lambda, default=) -/
section
variable {X : Cx} {pins : List (Addr × Obj)} {σ : St} {H : Hp} {s : Shared} {h' : Heap}
theorem Inv.sub {pins' : List (Addr × Obj)} (I : Inv X pins σ H s) (h : ∀ p ∈ pins', p ∈ pins) : Inv X pins' σ H s := I.pins_of fun p hp => I.pin p (List.mem_append_right _ (h p hp))
theorem Inv.repin {t' : Nat} {a : Addr} {o o' : Obj} (I : Inv X ((a, o) :: pins) σ H s) (h0 : X.s₀.heap.objs.size ≤ a) (hne : ∀ p ∈ X.pn ++ pins, p.1 ≠ a) (k : ∀ b u, b ≠ a → s.heap.get? b = some u → h'.get? b = some u) (ho : h'.get? a = some o') (hd : ∀ v, o'.data ≠ .cell v) :
    Inv X ((a, o') :: pins) σ H { s with heap := h', toks := t' } := by
  obtain ⟨p1, p2, p3, p4, p5⟩ := I.pin (a, o) (List.mem_append_right _ (.head _))
  have I0 : Inv X pins σ H s := I.sub fun p hp => .tail _ hp
  have I1 : Inv X pins σ H { s with heap := h', toks := t' } := I0.turned (it := a) k p2 p3 (.inr h0) (fun x c e z => by
    obtain ⟨v, oc, h1, h2⟩ := I.cell x c e
    rw [z] at h1
    have p1 : s.heap.get? a = some o := p1
    rw [p1] at h1
    cases h1
    exact p5 v h2) hne
  refine I1.pins_of fun p hp => ?_
  rcases List.mem_cons.mp hp with rfl | hp
  · exact ⟨ho, p2, p3, p4, hd⟩
  · exact I1.pin p (List.mem_append_right _ hp)
theorem Inv.pinNew {t' : Nat} {a : Addr} {o : Obj} (I : Inv X pins σ H s) (hp : s.heap.objs.size ≤ a) (k : ∀ b u, s.heap.get? b = some u → h'.get? b = some u) (ho : h'.get? a = some o) (hd : ∀ v, o.data ≠ .cell v) : Inv X ((a, o) :: pins) σ H { s with heap := h', toks := t' } := by
  refine (I.kept (t' := t') k).pins_of fun p hq => ?_
  rcases List.mem_cons.mp hq with rfl | hq
  · exact ⟨ho, I.hok.fresh hp, Nat.ne_of_gt (Nat.lt_of_lt_of_le I.lt hp), I.nofs hp, hd⟩
  · exact (I.kept (t' := t') k).pin p (List.mem_append_right _ hq)
end
def KTurn (X : Cx) (σ : St) (f : Addr) (xs : List V) (J : Hp → Prop) (kf : Nat → Int) : Prop :=
  ∀ (pins : List (Addr × Obj)) (s : Shared) (H : Hp) (i : Nat) (v : V) (u : Value), Inv X pins σ H s → J H → xs[i]? = some v → RelV v u →
    wpAny (model X.prog X.w) X.A.in1 (call (.ref f) [u]) (fun r s' => ∃ H', Inv X pins σ H' s' ∧ RelV (.int (kf i)) r ∧ J H') (fun _ _ => False) s
def Best (xs : List V) (kf : Nat → Int) (i : Nat) : Prop := ∀ j, j < xs.length → kf i ≤ kf j ∧ (j < i → kf i < kf j)
theorem list_at {X : Cx} {pins : List (Addr × Obj)} {σ : St} {H : Hp} {s : Shared} {l : Addr} {xs : List V} (I : Inv X pins σ H s) (e : H l = some (.lst xs)) : ∃ us : List Value, Vals xs us ∧ s.heap.IsList l us.toArray := by
  obtain ⟨_, us, n, r, h1⟩ := (show ObjOk X.prog X.w H s.heap l (.lst xs) from I.hok l _ e)
  exact ⟨us, r, _, h1, rfl, n, rfl⟩
/-! ### the lambda of a living frame, run -/
structure LamIn (X : Cx) (fs : List Str) (js : List Nat) (cl : List (Str × Addr)) : Prop where
  at_ : ∀ (i : Nat) x, fs[i]? = some x → ∃ j c, js[i]? = some j ∧ X.N[j]? = some x ∧ X.env.scope.names.lookup x = some .cell ∧ X.env.cells.lookup x = some c ∧ cl.lookup x = some c
  dom : ∀ x c, cl.lookup x = some c → x ∈ fs ∧ X.env.cells.lookup x = some c
/-! ### the expression -/
def tMin (q : Str) (mk : Addr → Value → Obj) (js : List Nat) (te tl td tb : TE) : TE := fun σ H Q => te σ H fun x H1 => tl σ H1 fun fv H2 => td σ H2 fun d H3 =>
  ∃ l f xs, x = .ref l ∧ fv = .ref f ∧ H3 l = some (.lst xs) ∧ (xs = [] → Q d H3) ∧ (xs ≠ [] → ∃ (c' : Addr) (ctv : Value) (fvs : List V) (kf : Nat → Int) (J : Hp → Prop), js.map (fun j => σ[j]?) = fvs.map (fun v => some (some v)) ∧ J H3 ∧
    (∀ H, J H → H l = some (.lst xs) ∧ H f = some (LamO f (mk c' ctv)) ∧ H c' = some (CodO c' q)) ∧ (∀ i v H, xs[i]? = some v → J H → tb (some v :: fvs.map some) H fun r H' => r = .int (kf i) ∧ J H') ∧ ∀ i v H, xs[i]? = some v → Best xs kf i → J H → Q v H)
end L2

set_option Elab.async false
set_option linter.all false
set_option maxRecDepth 100000
set_option maxHeartbeats 1000000
namespace L2
open PySem PySem.Spec PySem.Calls PyProof.Rows PySem.W
/-! ### enumerate of a tuple -/
section
variable {prog : Program} {w : World} {A : Around} {E : Value → Shared → Prop} {s : Shared}
end
end L2
namespace L2
open PySem PySem.Spec PySem.Calls PyProof.Rows PySem.W
open Sem (wp)
open AutoSeq1 (wpAny_loadPart')
/-! ### records of ours have turned, a new object is laid -/
/-! ### enumerate, walked -/
def EnL (K : PySem.W.Frag) (a : Addr) : It := ⟨(Itl K a).go, fun i H x H' => ∃ T y, x = .ref T ∧ H T = none ∧ H' = upd H T (.tup [.int i, y]) ∧ ∀ xs, SqL K H a xs → xs[i]? = some y, (Itl K a).stop⟩
def EnT (K : PySem.W.Frag) (a : Addr) : It := ⟨(Itt K a).go, fun i H x H' => ∃ T y, x = .ref T ∧ H T = none ∧ H' = upd H T (.tup [.int i, y]) ∧ ∀ xs, SqT K H a xs → xs[i]? = some y, (Itt K a).stop⟩
def itEn (K : PySem.W.Frag) (p : Addr) (H : Hp) (R : It → Hp → Prop) : Prop := (∃ xs, SqL K H p xs ∧ R (EnL K p) H) ∨ ∃ xs, SqT K H p xs ∧ R (EnT K p) H
def wEn (K : PySem.W.Frag) (te : TE) : TI := fun σ H R => te σ H fun x H1 => match x with | .ref p => itEn K p H1 R | _ => False
end L2

set_option Elab.async false
set_option linter.all false
set_option maxRecDepth 100000
set_option maxHeartbeats 1000000
namespace L2
open PySem PySem.Spec PySem.Calls PyProof.Rows PySem.W
section
variable {X : Cx} {K : PySem.W.Frag}
def wAbs : List V → Hp → VK → Prop := fun xs H Q => match xs with | [.int i] => Q (.int (if i < 0 then -i else i)) H | _ => False
def cntL (K : PySem.W.Frag) (a : Addr) (j : Int) (H : Hp) (Q : VK) : Prop := ∃ ns : List Int, SqL K H a (ns.map V.int) ∧ Q (.int (ns.count j : Nat)) H
def wCount (K : PySem.W.Frag) : V → List V → Hp → VK → Prop := fun x xs H Q => match x, xs with | .ref a, [.int j] => cntL K a j H Q | _, _ => False
end
end L2

set_option Elab.async false
set_option linter.all false
set_option maxRecDepth 100000
set_option maxHeartbeats 1000000
namespace HT
open PySem PyProof.Rows
open PySem.SeqAt
open PySem.MeetsSeq PySem.MeetsSeq2 PySem.MeetsSeq3
end HT
namespace L2
open PySem PySem.Spec PyProof.Rows
section
variable {X : Cx} {K : PySem.W.Frag}
/-- a slice of a tuple, the whole too -/
def slTw (K : PySem.W.Frag) (p : Addr) (lo hi : Option Int) (H : Hp) (Q : VK) : Prop := ∃ xs, SqT K H p xs ∧ (HT.sIx xs.length 0 lo = 0 ∧ HT.sIx xs.length xs.length hi = xs.length → Q (.ref p) H) ∧ (¬ (HT.sIx xs.length 0 lo = 0 ∧ HT.sIx xs.length xs.length hi = xs.length) → ∀ l, H l = none → Q (.ref l) (upd H l (.tup (cutV xs lo hi))))
def wSlW (K : PySem.W.Frag) : V → Option Int → Option Int → Hp → VK → Prop := fun x lo hi H Q => match x with | .ref p => slTw K p lo hi H Q | _ => False
end
end L2

set_option Elab.async false
set_option linter.all false
set_option maxRecDepth 100000
set_option maxHeartbeats 1000000
namespace L2
open PySem PySem.Spec PyProof.Rows
/-! ### lists of pairs as tables -/
section
variable {κ : Type} [DecidableEq κ]
def valV (kvs : List (κ × V)) (k : κ) : Option V := (kvs.find? fun kv => decide (kv.1 = k)).map (·.2)
/-- in its place, or at the end -/
def putK (kvs : List (κ × V)) (k : κ) (v : V) : List (κ × V) :=
  if (kvs.any fun kv => decide (kv.1 = k)) = true then kvs.map (fun kv => if kv.1 = k then (kv.1, v) else kv) else kvs ++ [(k, v)]
def dropK (kvs : List (κ × V)) (k : κ) : List (κ × V) := kvs.filter fun kv => decide (kv.1 ≠ k)

end


/-! ### a tracked dict, its keys ints and texts or tuples of these -/
/-- raw entries of a dict with tuple keys -/
abbrev KT (H : Hp) : List (List Key × V) → List (List Key × Addr × Value) → Prop := Paired fun p q => p.1 = q.1 ∧ H q.2.1 = some (.tup (p.1.map kV)) ∧ RelV p.2 q.2.2
section
variable {P : Program} {w : World} {H : Hp} {h : Heap} {a : Addr}
end

/-- what the dict at a holds at the key y -/
def DGet (H : Hp) (a : Addr) (y : V) (r : Option V) : Prop :=
  (∃ kvs k, Rd H a (.dK kvs) ∧ y = kV k ∧ r = valV kvs k) ∨ ∃ kvs k b, Rd H a (.dT kvs) ∧ y = .ref b ∧ H b = some (.tup (k.map kV)) ∧ r = valV kvs k
/-- the heap behind a[y] = v -/
def DPut (H : Hp) (a : Addr) (y v : V) (H' : Hp) : Prop :=
  (∃ kvs k, H a = some (.dK kvs) ∧ y = kV k ∧ kvs.length < sizeLine ∧ H' = upd H a (.dK (putK kvs k v))) ∨
  ∃ kvs k b, H a = some (.dT kvs) ∧ y = .ref b ∧ H b = some (.tup (k.map kV)) ∧ kvs.length < sizeLine ∧ H' = upd H a (.dT (putK kvs k v))
section
variable {X : Cx} {pins : List (Addr × Obj)} {σ : St} {H : Hp} {s : Shared} {a : Addr} {y v : V} {u r : Value} {o : Option V} {A : Around} {E : Value → Shared → Prop}

end

section
variable {X : Cx} {pins : List (Addr × Obj)} {σ : St} {H : Hp} {s : Shared} {a : Addr} {kvs : List (Key × V)} {k : Key} {u : Value} {A : Around} {E : Value → Shared → Prop}
end


/-! ### readings and rules -/
/-- the element of a subscription, not a slice -/
def NoSl (i : Expr) : Prop := ∀ ov iv, subscripted i false ov iv = operate [ov, iv] (getItem ov iv)
/-- d[y] -/
def tDGet (td ty : TE) : TE := fun σ H Q => td σ H fun x H1 => ty σ H1 fun y H2 => ∃ a v, x = .ref a ∧ DGet H2 a y (some v) ∧ Q v H2
/-- y in d, y not in d -/
def tDIn (ty td : TE) : TE := fun σ H Q => ty σ H fun y H1 => td σ H1 fun x H2 => ∃ a o, x = .ref a ∧ DGet H2 a y o ∧ Q (.bl o.isSome) H2
def tDNotIn (ty td : TE) : TE := fun σ H Q => ty σ H fun y H1 => td σ H1 fun x H2 => ∃ a o, x = .ref a ∧ DGet H2 a y o ∧ Q (.bl (!o.isSome)) H2
/-- d[y] = v -/
def sDPut (td ty tv : TE) : TS := fun D σ H => tv σ H fun v H1 => td σ H1 fun x H2 => ty σ H2 fun y H3 => ∃ a H4, x = .ref a ∧ DPut H3 a y v H4 ∧ D.nx σ H4
/-- d[y] op= v -/
def sDAug (td ty tv : TE) (rd : V → V → Hp → VK → Prop) : TS := fun D σ H => td σ H fun x H1 => ty σ H1 fun y H2 => ∃ a v, x = .ref a ∧ DGet H2 a y (some v) ∧
  tv σ H2 fun y2 H3 => rd v y2 H3 fun z H4 => ∃ H5, DPut H4 a y z H5 ∧ D.nx σ H5
/-- del d[y] -/
def sDDel (td ty : TE) : TS := fun D σ H => td σ H fun x H1 => ty σ H1 fun y H2 => ∃ a kvs k, x = .ref a ∧ H2 a = some (.dK kvs) ∧ y = kV k ∧ (valV kvs k).isSome = true ∧ D.nx σ (upd H2 a (.dK (dropK kvs k)))

section
variable {X : Cx} {o i e value : Expr} {pos pos' tpos : Pos} {td ty tv : TE}
end


/-! ### displays -/
/-- {}, to be a dict of the kind that is wanted -/
def tDNewK : TE := fun _ H Q => ∀ p, H p = none → Q (.ref p) (upd H p (.dK []))
def tDNewT : TE := fun _ H Q => ∀ p, H p = none → Q (.ref p) (upd H p (.dT []))
section
variable {X : Cx} {pos : Pos}
end

/-- the pairs of a display, from the left -/
def tPairs : List (TE × TE) → St → Hp → (List (V × V) → Hp → Prop) → Prop
  | [], _, H, Q => Q [] H
  | (tk, tv) :: r, σ, H, Q => tk σ H fun x H1 => tv σ H1 fun y H2 => tPairs r σ H2 fun ps H3 => Q ((x, y) :: ps) H3
abbrev VV : List (V × V) → List (Value × Value) → Prop := Paired fun p q => RelV p.1 q.1 ∧ RelV p.2 q.2
def PPs (X : Cx) (pos : Pos) (keys : List (Option Expr)) (values : List Expr) (trs : List (TE × TE)) : Prop :=
  ∀ (pins : List (Addr × Obj)) (s : Shared) (σ : St) (H : Hp) (Q : List (V × V) → Hp → Prop), Inv X pins σ H s → tPairs trs σ H Q →
    wpAny (model X.prog X.w) X.A (evalPairs (pairTrees keys values X.env pos)) (fun vs s' => ∃ ps H', Inv X pins σ H' s' ∧ VV ps vs ∧ Q ps H') X.xe s
def mergeK (kvs more : List (Key × V)) : List (Key × V) := more.foldl (fun acc kv => putK acc kv.1 kv.2) kvs
/-- {k: v, ..} with keys ints and texts; the new dict stands empty while the pairs are made -/
def tDisp (trs : List (TE × TE)) : TE := fun σ H Q => ∀ p, H p = none → tPairs trs σ (upd H p (.dK [])) fun ps H2 => H2 p = some (.dK []) ∧ ∃ kvs : List (Key × V), ps = kvs.map (fun kv => (kV kv.1, kv.2)) ∧ kvs.length ≤ 15 ∧ Q (.ref p) (upd H2 p (.dK (mergeK [] kvs)))
/-! ### methods -/
/-- a method call o.m(e) of a built-in, with one argument: what must be seen of the text -/
structure M1 (X : Cx) (o : Expr) (m : Str) (apos : Pos) (e : Expr) (cpos : Pos) : Prop where
  base : attributeBase o m X.env (eval o X.env) = eval o X.env
  few : ((backTo cpos (starEach [e] X.env)).all (fun x => !x.1) && (backToKw cpos (keywordEach [] X.env)).all (fun x => x.1.isSome)
    && decide (([e] : List Expr).length + ([] : List Keyword).length + (if ([] : List Keyword).isEmpty then 0 else 1) < 30)) = true
  line : (apos.endLine == cpos.line) = true
  trees : backTo cpos (starEach [e] X.env) = [(false, eval e X.env)]
structure M2 (X : Cx) (o : Expr) (m : Str) (apos : Pos) (e f : Expr) (cpos : Pos) : Prop where
  base : attributeBase o m X.env (eval o X.env) = eval o X.env
  few : ((backTo cpos (starEach [e, f] X.env)).all (fun x => !x.1) && (backToKw cpos (keywordEach [] X.env)).all (fun x => x.1.isSome)
    && decide (([e, f] : List Expr).length + ([] : List Keyword).length + (if ([] : List Keyword).isEmpty then 0 else 1) < 30)) = true
  line : (apos.endLine == cpos.line) = true
  trees : backTo cpos (starEach [e, f] X.env) = [(false, eval e X.env), (false, eval f X.env)]

/-- a is a dict, whatever its keys -/
def IsD (H : Hp) (a : Addr) : Prop := (∃ kvs, Rd H a (.dK kvs)) ∨ ∃ kvs, Rd H a (.dT kvs)
section
variable {X : Cx} {pins : List (Addr × Obj)} {σ : St} {H : Hp} {s : Shared} {a : Addr} {y d : V} {u r : Value} {o : Option V} {A : Around} {E : Value → Shared → Prop}
end

def tDGet1 (td ty : TE) : TE := fun σ H Q => td σ H fun x H1 => ∃ a, x = .ref a ∧ IsD H1 a ∧ ty σ H1 fun y H2 => ∃ o, DGet H2 a y o ∧ Q (o.getD .non) H2
def tDGet2 (td ty tx : TE) : TE := fun σ H Q => td σ H fun x H1 => ∃ a, x = .ref a ∧ IsD H1 a ∧ ty σ H1 fun y H2 => tx σ H2 fun z H3 => ∃ o, DGet H3 a y o ∧ Q (o.getD z) H3
/-- d.pop(k): there; d.pop(k, x): there or not -/
def tDPop1 (td ty : TE) : TE := fun σ H Q => td σ H fun x H1 => ∃ a, x = .ref a ∧ IsD H1 a ∧ ty σ H1 fun y H2 => ∃ kvs k v, H2 a = some (.dK kvs) ∧ y = kV k ∧ valV kvs k = some v ∧ Q v (upd H2 a (.dK (dropK kvs k)))
def tDPop2 (td ty tx : TE) : TE := fun σ H Q => td σ H fun x H1 => ∃ a, x = .ref a ∧ IsD H1 a ∧ ty σ H1 fun y H2 => tx σ H2 fun z H3 => ∃ kvs k, H3 a = some (.dK kvs) ∧ y = kV k ∧
  (∀ v, valV kvs k = some v → Q v (upd H3 a (.dK (dropK kvs k)))) ∧ (valV kvs k = none → Q z H3)
section
variable {X : Cx} {o e f : Expr} {apos cpos : Pos} {td ty tx : TE}
end

/-! ### dict(d): a copy -/
section
variable {X : Cx} {pins : List (Addr × Obj)} {σ : St} {H : Hp} {s : Shared} {a : Addr} {kvs : List (Key × V)} {A : Around} {E : Value → Shared → Prop}
end


section
variable {X : Cx} {pins : List (Addr × Obj)} {σ : St} {H : Hp} {s : Shared} {a : Addr} {y : V} {u : Value} {A : Around} {E : Value → Shared → Prop}
end
/-! ### a dict's pairs: keys that differ -/
section
variable {κ : Type} [DecidableEq κ]
end
end L2

set_option maxRecDepth 100000
set_option maxHeartbeats 1000000
set_option Elab.async false
set_option linter.all false
namespace PySem
namespace F
end F
section
variable {α : Type} {prog : Program} {w : World} {A : Around} {E : Value → Shared → Prop} {s : Shared}
end
section
variable {prog : Program} {w : World} {A : Around} {E : Value → Shared → Prop} {h : Heap} {g : Array GenState} {d : Drawn} {t : Nat} {os : OsState} {a : Addr} {its : Array Value} {n : Nat} {sl : Array (Option Value)}
end
end PySem

set_option Elab.async false
set_option linter.all false
set_option maxRecDepth 100000
set_option maxHeartbeats 1000000
namespace PySem
namespace F
end F
end PySem
namespace L2
open PySem PySem.Spec PyProof.Rows
def foldP (kvs ps : List (Key × V)) : List (Key × V) := ps.foldl (fun a p => putK a p.1 p.2) kvs
/-- dict(pairs) -/
def dictP (l : Addr) (H : Hp) (Q : VK) : Prop := ∃ (xs : List V) (ps : List (Key × V)), H l = some (.lst xs) ∧ Paired (fun x (p : Key × V) => ∃ b, x = V.ref b ∧ H b = some (.tup [kV p.1, p.2])) xs ps ∧ ps.length < sizeLine ∧ ∀ d, H d = none → Q (.ref d) (upd H d (.dK (foldP [] ps)))
def wDictP : List V → Hp → VK → Prop := fun xs H Q => match xs with | [.ref l] => dictP l H Q | _ => False
end L2

set_option Elab.async false
set_option linter.all false
set_option maxRecDepth 100000
set_option maxHeartbeats 1000000
namespace L2
open PySem PySem.Spec PySem.Calls PyProof.Rows PySem.W
section
variable {X : Cx} {K : PySem.W.Frag}
/-! ### sum of whole numbers -/
def sumL (K : PySem.W.Frag) (a : Addr) (H : Hp) (Q : VK) : Prop := ∃ ns : List Int, SqL K H a (ns.map V.int) ∧ Q (.int ns.sum) H
def wSum (K : PySem.W.Frag) : List V → Hp → VK → Prop := fun xs H Q => match xs with | [.ref a] => sumL K a H Q | _ => False
end
/-! ### a method that may raise, in a try -/
/-! ### isinstance of any tuple -/
def isiTu (K : PySem.W.Frag) (a : Addr) (c : V) (H : Hp) (Q : VK) : Prop := isiAny K a c H Q ∨ ∃ xs cv b, SqT K H a xs ∧ cV c = some cv ∧ PySem.W.kitOne K (.type "tuple") cv = some b ∧ Q (.bl b) H
def wIsiT (K : PySem.W.Frag) : List V → Hp → VK → Prop := fun xs H Q => match xs with
  | [.ref a, c] => isiTu K a c H Q
  | xs => wIsiX K xs H Q
theorem isiTuT {K : PySem.W.Frag} {H : Hp} {a : Addr} {c : V} {xs : List V} {cv : Value} {b : Bool} {Q : VK} (h : SqT K H a xs) (h1 : cV c = some cv) (h3 : PySem.W.kitOne K (.type "tuple") cv = some b) (g : Q (.bl b) H) : isiTu K a c H Q := .inr ⟨xs, cv, b, h, h1, h3, g⟩
theorem w_isiTu {X : Cx} {K : PySem.W.Frag} (hK : X.K = K) : CallR X (.builtin "isinstance") (wIsiT K) := by
  intro pins s σ H xs us Q I r h
  have old : wIsiX K xs H Q → wpAny (model X.prog X.w) X.A (call (.builtin "isinstance") us) (EP X pins σ Q) X.xe s := fun h => w_isiX hK pins s σ H xs us Q I r h
  match xs, h with
  | [.ref a, c], h =>
    rcases h with h | ⟨ys, cv, b, e, hc, hk, q⟩
    · exact old h
    · subst hK
      obtain ⟨u, w', rfl, r1, r2⟩ := vals2 r
      cases cV_is hc r2
      obtain rfl : u = Value.ref a := r1
      obtain ⟨its, _, p, _⟩ := I.tuple e
      obtain ⟨o, h1, h2, _⟩ := p
      exact PySem.W.kia_one PySem.W.kitx_tuple I.kIn ⟨o, h1, h2⟩ hk (fun z => nomatch z) fun tk => ⟨.bl b, H, I.tok _, rfl, q⟩
  | [], h => exact old h
  | [.non], h => exact old h
  | [.bl _], h => exact old h
  | [.int _], h => exact old h
  | [.str _], h => exact old h
  | [.byt _], h => exact old h
  | [.flt _], h => exact old h
  | [.ty _], h => exact old h
  | [.ref _], h => exact old h
  | [.non, c], h => exact old h
  | [.bl _, c], h => exact old h
  | [.int _, c], h => exact old h
  | [.str _, c], h => exact old h
  | [.byt _, c], h => exact old h
  | [.flt _, c], h => exact old h
  | [.ty _, c], h => exact old h
  | x :: y :: z :: r, h => exact old (by cases x <;> exact h)
/-! ### a comprehension over a list or a tuple -/
/-! ### while, by a word with a number -/
theorem whileN {c : TT} {tb : TS} {D : Ends} {σ : St} {H : Hp} (W : Nat → St → Hp → Prop) (h0 : ∃ m, W m σ H) (hs : ∀ m σ H, W m σ H → c σ H fun b H1 => ifB b (∃ N : St → Hp → Prop, (∀ σ' H', N σ' H' → ∃ m', m' < m ∧ W m' σ' H') ∧ tb { D with nx := N, ct := N, bk := D.nx } σ H1) (D.nx σ H1)) : wWhile c tb D σ H := ⟨W, h0, hs⟩
end L2

set_option Elab.async false
set_option linter.all false
set_option maxRecDepth 100000
set_option maxHeartbeats 1000000
namespace L2
open PySem PySem.Spec PySem.Calls PyProof.Rows PySem.W
/-! ### things: whole numbers, or tuples of whole numbers, in their order -/
section
variable {X : Cx} {K : PySem.W.Frag} {m : Nat}
def ltRf (K : PySem.W.Frag) (a b : Addr) (H : Hp) (Q : VK) : Prop := ∃ ns ms, SqT K H a (ns.map V.int) ∧ SqT K H b (ms.map V.int) ∧ Q (.bl (HT.lexLt ns ms)) H
def ltV (K : PySem.W.Frag) (x y : V) (H : Hp) (Q : VK) : Prop := match x, y with
  | .int i, .int j => Q (.bl (decide (i < j))) H
  | .ref a, .ref b => ltRf K a b H Q
  | _, _ => False
theorem ltII {i j : Int} {H : Hp} {Q : VK} (q : Q (.bl (decide (i < j))) H) : ltV K (.int i) (.int j) H Q := q
def wLtT (K : PySem.W.Frag) : R2 := fun x y H Q => ltV K x y H Q
theorem w_ltT (hK : X.K = K) (hr : Room m X.A) : OpR X (compareOp .Lt) (wLtT K) := by
  subst hK
  intro pins s σ H x y v u Q I rx ry h
  match x, y, h with
  | .int i, .int j, h => exact op_lt pins s σ H _ _ v u Q I rx ry ⟨i, j, rfl, rfl, h⟩
  | .ref a, .ref b, ⟨ns, ms, h1, h2, q⟩ => exact op_ltT (by have := hr.un; omega) pins s σ H _ _ v u Q I rx ry ⟨a, b, ns, ms, rfl, rfl, h1, h2, q⟩
end
inductive Tg where
  | n (i : Int) | t (ns : List Int)
def Tg.d : Tg → D
  | .n i => .int i
  | .t ns => .tup (ns.map D.int)
def Tg.pl : Tg → Bool
  | .n _ => true
  | .t _ => false
def Tg.lt : Tg → Tg → Bool
  | .n i, .n j => decide (i < j)
  | .t a, .t b => HT.lexLt a b
  | .n _, .t _ => true
  | .t _, .n _ => false
theorem lexLt_irr : ∀ a : List Int, HT.lexLt a a = false
  | [] => rfl
  | x :: xs => by rw [HT.lexLt_cons, if_pos rfl]; exact lexLt_irr xs
theorem lexLt_anti : ∀ {a b : List Int}, HT.lexLt a b = false → HT.lexLt b a = false → a = b
  | [], [], _, _ => rfl
  | [], _ :: _, h, _ => by rw [HT.lexLt_nil_cons] at h; cases h
  | _ :: _, [], _, h => by rw [HT.lexLt_nil_cons] at h; cases h
  | x :: xs, y :: ys, h, h' => by
    rw [HT.lexLt_cons] at h h'
    by_cases e : x = y
    · rw [if_pos e] at h
      rw [if_pos e.symm] at h'
      rw [e, lexLt_anti h h']
    · rw [if_neg e] at h
      rw [if_neg (Ne.symm e)] at h'
      have h1 := of_decide_eq_false h
      have h2 := of_decide_eq_false h'
      omega
theorem lexLt_tr : ∀ {a b c : List Int}, HT.lexLt b a = false → HT.lexLt c b = false → HT.lexLt c a = false
  | [], [], [], _, _ => rfl
  | [], _ :: _, [], _, h => by rw [HT.lexLt_nil_cons] at h; cases h
  | _, _, [], h1, h2 => by
    rename_i a b
    cases b with
    | cons y ys => rw [HT.lexLt_nil_cons] at h2; cases h2
    | nil => exact h1
  | [], _, _ :: _, _, _ => rfl
  | x :: xs, [], z :: zs, h1, _ => by rw [HT.lexLt_nil_cons] at h1; cases h1
  | x :: xs, y :: ys, z :: zs, h1, h2 => by
    rw [HT.lexLt_cons] at h1 h2 ⊢
    by_cases e1 : y = x
    · rw [if_pos e1] at h1
      by_cases e2 : z = y
      · rw [if_pos e2] at h2
        rw [if_pos (e2.trans e1)]
        exact lexLt_tr h1 h2
      · rw [if_neg e2] at h2
        rw [if_neg (fun z' => e2 (z'.trans e1.symm)), ← e1]
        exact h2
    · rw [if_neg e1] at h1
      have h1 := of_decide_eq_false h1
      by_cases e2 : z = y
      · rw [if_neg (fun z' => e1 (e2.symm.trans z')), e2]
        exact decide_eq_false h1
      · rw [if_neg e2] at h2
        have h2 := of_decide_eq_false h2
        rw [if_neg (by omega)]
        exact decide_eq_false (by omega)
theorem Tg.irr : ∀ a : Tg, a.lt a = false
  | .n i => decide_eq_false (by omega)
  | .t a => lexLt_irr a
theorem Tg.anti : ∀ {a b : Tg}, a.lt b = false → b.lt a = false → a = b
  | .n i, .n j, h, h' => by
    have h1 := of_decide_eq_false h
    have h2 := of_decide_eq_false h'
    rw [show i = j by omega]
  | .t a, .t b, h, h' => by rw [lexLt_anti h h']
  | .n _, .t _, h, _ => by cases h
  | .t _, .n _, _, h => by cases h
theorem Tg.tr : ∀ {a b c : Tg}, b.lt a = false → c.lt b = false → c.lt a = false
  | .n i, .n j, .n k, h, h' => by
    have h1 := of_decide_eq_false h
    have h2 := of_decide_eq_false h'
    exact decide_eq_false (by omega)
  | .t a, .t b, .t c, h, h' => lexLt_tr h h'
  | .n _, _, .t _, _, _ => rfl
  | .t _, .n _, _, h, _ => by cases h
  | _, .t _, .n _, _, h => by cases h
theorem lexLt_as : ∀ {x y : List Int}, HT.lexLt x y = true → HT.lexLt y x = true → False
  | [], [], h, _ => by cases h
  | [], _ :: _, _, e => by cases e
  | _ :: _, [], h, _ => by cases h
  | a :: x, b :: y, h, e => by
    rw [HT.lexLt_cons] at h e
    by_cases z : a = b
    · rw [if_pos z] at h
      rw [if_pos z.symm] at e
      exact lexLt_as h e
    · rw [if_neg z] at h
      rw [if_neg (Ne.symm z)] at e
      have := of_decide_eq_true h
      have := of_decide_eq_true e
      omega
theorem Tg.as {a b : Tg} (h : a.lt b = true) : b.lt a = false := by
  cases e : b.lt a with
  | false => rfl
  | true =>
    exfalso
    match a, b, h, e with
    | .n i, .n j, h, e => have := of_decide_eq_true h; have := of_decide_eq_true e; omega
    | .t x, .t y, h, e => exact lexLt_as h e
def TgAt (K : PySem.W.Frag) (H : Hp) (v : V) : Tg → Prop
  | .n i => v = .int i
  | .t ns => ∃ a, v = .ref a ∧ SqT K H a (ns.map V.int)
theorem TgAt.den {K : PySem.W.Frag} {H : Hp} {v : V} : ∀ {g : Tg}, TgAt K H v g → Den K H v g.d
  | .n i, h => by cases h; exact .int i
  | .t ns, ⟨a, e, h⟩ => by
    subst e
    refine .tup h (by simp) fun i x d hx hd => ?_
    rw [List.getElem?_map] at hx hd
    cases e : ns[i]? with
    | none => rw [e] at hx; cases hx
    | some k =>
      rw [e] at hx hd
      cases hx
      cases hd
      exact .int k
theorem eqDs_int : ∀ (ns ms : List Int), eqDs (ns.map D.int) (ms.map D.int) = true ↔ ns = ms
  | [], [] => by simp [eqDs]
  | [], _ :: _ => by simp [eqDs]
  | _ :: _, [] => by simp [eqDs]
  | x :: xs, y :: ys => by
    rw [List.map_cons, List.map_cons, eqDs, Bool.and_eq_true, eqDs_int xs ys, eqD]
    simp
theorem Tg.eqD_iff : ∀ {g h : Tg}, eqD g.d h.d = true ↔ g = h
  | .n i, .n j => by show ((i == j) = true ↔ _); simp
  | .t a, .t b => by
    show (eqD (.tup _) (.tup _) = true ↔ _)
    rw [eqD, eqDs_int]
    exact ⟨fun e => by rw [e], fun e => by cases e; rfl⟩
  | .n i, .t b => by show (eqD (.int i) (.tup _) = true ↔ _); simp [eqD]
  | .t a, .n j => by show (eqD (.tup _) (.int j) = true ↔ _); simp [eqD]
theorem deps_int : ∀ (ns : List Int), deps (ns.map D.int) = 0
  | [] => rfl
  | n :: ns => by rw [List.map_cons, deps, deps_int ns]; rfl
theorem Tg.dep_le (g : Tg) : dep g.d ≤ 1 := by
  cases g with
  | n i => exact Nat.zero_le _
  | t ns => show dep (.tup _) ≤ 1; rw [dep, deps_int]; exact Nat.le_refl _
def Gs (K : PySem.W.Frag) (H : Hp) (p : Bool) (xs : List V) (gs : List Tg) : Prop := xs.length = gs.length ∧ ∀ (i : Nat) x g, xs[i]? = some x → gs[i]? = some g → TgAt K H x g ∧ g.pl = p
theorem lt_at {K : PySem.W.Frag} {H : Hp} {Q : VK} {x y : V} : ∀ {g h : Tg}, TgAt K H x g → TgAt K H y h → g.pl = h.pl → Q (.bl (g.lt h)) H → ltV K x y H Q
  | .n i, .n j, h1, h2, _, q => by cases h1; cases h2; exact q
  | .t a, .t b, ⟨l, e, h1⟩, ⟨l', e', h2⟩, _, q => by subst e; subst e'; exact ⟨a, b, h1, h2, q⟩
  | .n _, .t _, _, _, e, _ => by cases e
  | .t _, .n _, _, _, e, _ => by cases e
/-! ### list.remove -/
theorem remove_loopAt (l : Addr) (items : Array Value) (n : Nat) (x : Value) (e : Nat → Bool) (j : Nat) (hj : j < items.size) (hej : e j = true) (hz : items.size ≤ sizeLine) :
    ∀ (k i : Nat), j - i = k → i ≤ j → (∀ q, i ≤ q → q < j → e q = false) →
    Meets (Builtin.«list.remove.loop» { pos := [Value.ref l, x, rawInt ↑i] }) fun A R s =>
      s.heap.get? l = some { cls := Value.type "list", data := Data.seq items n } ∧ (∀ (q : Nat) (hq : q < items.size), SeqAt.EqAt A.in1 s items[q] x (e q)) ∧
        R (Except.ok (Flow.ret Value.none)) { s with heap := s.heap.update l (Obj.mapSeq fun xs => xs.eraseIdxIfInBounds j) } := by
  intro k
  induction k with
  | zero =>
    intro i hk hij hf prog w A R s ⟨h1, h2, q⟩
    have e0 : i = j := by omega
    subst e0
    show wpAny _ A.in1 (Builtin.List.listItems (.ref l) >>= _) _ _ s
    refine wpAny_bind (wpAny_bind (wpAny_seqItems h1 rfl (wpAny_pure ?_)))
    have hi : items[(↑i : Int).toNat]? = some items[i] := by simp [hj]
    rw [hi]
    show wpAny _ A.in1 (eqBool _ _ >>= _) _ _ s
    refine wpAny_bind (h2 i hj _ _ _ _ ?_)
    rw [if_pos hej]
    refine wpAny_bind (wpAny_updateSeq h1 rfl ?_ hz ?_)
    · exact wpAny_pure q
    · show (items.eraseIdxIfInBounds (↑i : Int).toNat).size ≤ _
      have : (items.eraseIdxIfInBounds (↑i : Int).toNat).size ≤ items.size := by
        unfold Array.eraseIdxIfInBounds; split <;> simp
      omega
  | succ k ih =>
    intro i hk hij hf prog w A R s ⟨h1, h2, q⟩
    have hi0 : i < items.size := by omega
    show wpAny _ A.in1 (Builtin.List.listItems (.ref l) >>= _) _ _ s
    refine wpAny_bind (wpAny_bind (wpAny_seqItems h1 rfl (wpAny_pure ?_)))
    have hi : items[(↑i : Int).toNat]? = some items[i] := by simp [hi0]
    rw [hi]
    show wpAny _ A.in1 (eqBool _ _ >>= _) _ _ s
    refine wpAny_bind (h2 i hi0 _ _ _ _ ?_)
    have hf0 := hf i (Nat.le_refl _) (by omega)
    rw [hf0]
    refine wpAny_pure ⟨plainId_quiet MeetsSeq.plain_remove_loop _, codeAny_builtin MeetsSeq.entry_remove_loop ?_⟩
    rw [Around.under_plainId MeetsSeq.plain_remove_loop _]
    have := ih (i + 1) (by omega) (by omega) (fun q h1 h2 => hf q (by omega) h2) prog w A R s ⟨h1, h2, q⟩
    exact this
theorem list_removeAt (l : Addr) (items : Array Value) (n : Nat) (x : Value) (e : Nat → Bool) (j : Nat) (hj : j < items.size) (hej : e j = true) (hz : items.size ≤ sizeLine) (hf : ∀ q, q < j → e q = false) :
    Meets (Builtin.«list.remove» { pos := [Value.ref l, x] }) fun A R s =>
      s.heap.get? l = some { cls := Value.type "list", data := Data.seq items n } ∧ (∀ (q : Nat) (hq : q < items.size), SeqAt.EqAt A.in1 s items[q] x (e q)) ∧
        R (Except.ok (Flow.ret Value.none)) { s with heap := s.heap.update l (Obj.mapSeq fun xs => xs.eraseIdxIfInBounds j) } := by
  intro prog w A R s h
  show wpAny _ A.in1 (pure (Fin.again (Code.builtin "list.remove.loop" { pos := [.ref l, x, rawInt 0] }))) _ _ s
  refine wpAny_pure ⟨plainId_quiet MeetsSeq.plain_remove_loop _, codeAny_builtin MeetsSeq.entry_remove_loop ?_⟩
  rw [Around.under_plainId MeetsSeq.plain_remove_loop _]
  exact remove_loopAt l items n x e j hj hej hz j 0 (by omega) (by omega) (fun q _ h => hf q h) prog w A R s h
section
variable {X : Cx} {K : PySem.W.Frag} {m : Nat}
def remL (K : PySem.W.Frag) (a : Addr) (y : V) (H : Hp) (Q : VK) : Prop := ∃ xs gs p g j, H a = some (.lst xs) ∧ Gs K H p xs gs ∧ TgAt K H y g ∧ gs[j]? = some g ∧ (∀ q, q < j → gs[q]? ≠ some g) ∧ Q .non (upd H a (.lst (xs.eraseIdx j)))
def wRemove (K : PySem.W.Frag) : V → List V → Hp → VK → Prop := fun x xs H Q => match x, xs with | .ref a, [y] => remL K a y H Q | _, _ => False
theorem w_remove (hK : X.K = K) (hr : Room m X.A) : MtR X "list.remove" (wRemove K) := by
  subst hK
  intro pins s σ H x xs v us Q I rx rs h
  match x, xs, h with
  | .ref a, [y], h =>
    obtain ⟨zs, gs, p, g, j, hH, hG, hy, hj, hf, q⟩ := h
    have rx : v = Value.ref a := rx
    subst rx
    obtain ⟨u, rfl, ru⟩ := vals1 rs
    obtain ⟨z, its, n, r, hl, e⟩ := I.lstM hH
    have hgl := hG.1
    obtain ⟨hj', _⟩ := List.getElem?_eq_some_iff.mp hj
    refine call_meets PySem.F.slot_list_remove ⟨_, e, rfl⟩ PySem.F.entry_list_remove (PySem.F.args_list_remove_2 _ _)
      (list_removeAt a its.toArray n u (fun q => eqD (gs.getD q (.n 0)).d g.d) j (by rw [List.size_toArray]; omega) ?_ (by rw [List.size_toArray]; omega) ?_) ⟨e, ?_, ?_⟩
    · show eqD (gs.getD j (.n 0)).d g.d = true
      rw [List.getD, hj]
      exact eqD_refl _
    · intro q hq
      show eqD (gs.getD q (.n 0)).d g.d = false
      have hq' : q < gs.length := by omega
      rw [List.getD, List.getElem?_eq_getElem hq']
      cases z : eqD (gs[q]).d g.d with
      | false => exact z
      | true =>
        exact absurd (by rw [List.getElem?_eq_getElem hq', Tg.eqD_iff.mp z]) (hf q hq)
    · intro q hq
      have hq1 : q < its.length := by rw [List.size_toArray] at hq; exact hq
      have hq2 : q < zs.length := by omega
      have hq3 : q < gs.length := by omega
      obtain ⟨w1, e1, q1⟩ := r.get (i := q) (x := zs[q]) (by simp)
      have k1 : its.toArray[q] = w1 := by
        have : its[q]? = some its.toArray[q] := by simp
        rw [this] at e1; exact Option.some.inj e1
      rw [k1]
      show SeqAt.EqAt _ s w1 u (eqD (gs.getD q (.n 0)).d g.d)
      rw [List.getD, List.getElem?_eq_getElem hq3]
      have hd := (hG.2 q zs[q] gs[q] (by simp) (by simp)).1.den
      refine eqAt_den I hd hy.den q1 ru ?_
      have h1 := hr.un
      have h2 := Tg.dep_le gs[q]
      have h3 : X.A.in1.units = X.A.units + 1 := rfl
      omega
    · refine ⟨.non, _, I.lset (its' := its.eraseIdx j) hH e ?_ ?_ ?_, rfl, q⟩
      · show its.toArray.eraseIdxIfInBounds j = _
        rw [List.eraseIdxIfInBounds_toArray]
      · exact r.eraseIdx j
      · rw [List.length_eraseIdx]; split <;> omega
theorem remLI {a : Addr} {y : V} {H : Hp} {Q : VK} {xs : List V} {gs : List Tg} {p : Bool} {g : Tg} {j : Nat} (h1 : H a = some (.lst xs)) (h2 : Gs K H p xs gs) (h3 : TgAt K H y g) (h4 : gs[j]? = some g) (h5 : ∀ q, q < j → gs[q]? ≠ some g) (q : Q .non (upd H a (.lst (xs.eraseIdx j)))) : remL K a y H Q :=
  ⟨xs, gs, p, g, j, h1, h2, h3, h4, h5, q⟩
end
end L2

set_option Elab.async false
set_option linter.all false
set_option maxRecDepth 100000
set_option maxHeartbeats 1000000
namespace L2
open PySem PySem.Spec PySem.Calls PyProof.Rows PySem.W
/-! ### min(xs) of things -/
theorem rc_at {prog : Program} {w : World} {X : Cx} {pins : List (Addr × Obj)} {σ : St} {H : Hp} {s : Shared} {A : Around} {E : Value → Shared → Prop} {Q : Value → Shared → Prop} {x y : V} {u v : Value} (I : Inv X pins σ H s) (hu : A.units < cLine) : ∀ {g h : Tg}, TgAt X.K H x g → TgAt X.K H y h → g.pl = h.pl → RelV x u → RelV y v → Q (.bool (g.lt h)) s → wpAny (model prog w) A (richCompare .Lt u v) Q E s
  | .n i, .n j, h1, h2, _, rx, ry, q => by
    cases h1; cases h2
    obtain ⟨t, rfl⟩ := rx
    obtain ⟨t', rfl⟩ := ry
    exact HT.rcLt_int A s i t j t' prog w E Q q
  | .t a, .t b, ⟨l, e, h1⟩, ⟨l', e', h2⟩, _, rx, ry, q => by
    subst e; subst e'
    cases rx; cases ry
    obtain ⟨its, r1, p1, _⟩ := I.tuple h1
    obtain ⟨its2, r2, p2, _⟩ := I.tuple h2
    have i1 : IntsAre its.toArray.toList a := intsAre_of r1
    have i2 : IntsAre its2.toArray.toList b := intsAre_of r2
    exact HT.lt_tupInts (prog := prog) (w := w) (A := A) (E := E) p1 p2 i1 i2 hu q
  | .n _, .t _, _, _, e, _, _, _ => by cases e
  | .t _, .n _, _, _, e, _, _, _ => by cases e
theorem mt_loop {X : Cx} {pins : List (Addr × Obj)} {σ : St} {H : Hp} {l S It : Addr} {xs : List V} {gs : List Tg} {p : Bool} {R : Result → Shared → Prop} (hh : X.A.handled = none) (hu : X.A.units + 2 < cLine) (hJl : H l = some (.lst xs)) (hG : Gs X.K H p xs gs)
    (hI0 : X.s₀.heap.objs.size ≤ It) (hS0 : X.s₀.heap.objs.size ≤ S) (hpI : ∀ p ∈ X.pn ++ pins, p.1 ≠ It) (hpS : ∀ p ∈ X.pn ++ pins, p.1 ≠ S) (hSI : S ≠ It)
    (hR : ∀ (i : Nat) v u g s', xs[i]? = some v → gs[i]? = some g → RelV v u → (∀ h ∈ gs, h.lt g = false) → Inv X pins σ H s' → R (.ok (.ret u)) s') :
    ∀ (r j i : Nat) (s : Shared) (v : V) (g : Tg) (vb : Value) (c : Nat) (oI : Obj), xs.length - (j + 1) = r → j + 1 ≤ xs.length →
      Inv X ((S, seqObj "list" #[vb, vb] c) :: (It, oI) :: pins) σ H s → s.heap.IsListIter It l (j + 1) → xs[i]? = some v → gs[i]? = some g → RelV v vb → (∀ j' h, j' ≤ j → gs[j']? = some h → h.lt g = false) →
      codeAny (model X.prog X.w) X.A (.builtin "min.loop" ⟨[.ref It, .none, .ref S], []⟩) R s := by
  have hname : (toString "min" ++ toString ".loop" : String) = "min.loop" := by decide
  have hpI' : ∀ (o : Obj), ∀ p ∈ X.pn ++ (S, o) :: pins, p.1 ≠ It := fun o p hp => by
    rcases List.mem_append.mp hp with hp | hp
    · exact hpI p (List.mem_append_left _ hp)
    · rcases List.mem_cons.mp hp with rfl | hp
      · exact hSI
      · exact hpI p (List.mem_append_right _ hp)
  have hpS' : ∀ (o : Obj), ∀ p ∈ X.pn ++ (It, o) :: pins, p.1 ≠ S := fun o p hp => by
    rcases List.mem_append.mp hp with hp | hp
    · exact hpS p (List.mem_append_left _ hp)
    · rcases List.mem_cons.mp hp with rfl | hp
      · exact hSI.symm
      · exact hpS p (List.mem_append_right _ hp)
  have swap : ∀ {a b : Addr × Obj}, ∀ p ∈ a :: b :: pins, p ∈ b :: a :: pins := fun {a b} p hp => by
    rcases List.mem_cons.mp hp with rfl | hp
    · exact .tail _ (.head _)
    · rcases List.mem_cons.mp hp with rfl | hp
      · exact .head _
      · exact .tail _ (.tail _ hp)
  have hgl := hG.1
  intro r
  induction r with
  | zero =>
    intro j i s v g vb c oI hr hj I hit hv hg rv hbest
    obtain ⟨us, rus, hl⟩ := list_at I hJl
    have hsz : us.toArray.size = xs.length := by rw [List.size_toArray, rus.length]
    have nS := I.pin (S, _) (List.mem_append_right _ (.head _))
    have nI := I.pin (It, oI) (List.mem_append_right _ (.tail _ (.head _)))
    have hlI : l ≠ It := fun z => by have := nI.2.1; rw [← z, hJl] at this; cases this
    have W := Walks.list (prog := X.prog) (w := X.w) (A := X.A.in1) hh It l hlI us.toArray
    refine codeAny_builtin PySem.F.entry_min_loop ?_
    rw [Around.under_plainId PySem.F.plain_min_loop _]
    show wpAny _ X.A.in1 (seqItems? (.ref S) >>= _) _ _ _
    refine wpAny_bind (wpAny_seqItems nS.1 rfl ?_)
    show wpAny _ X.A.in1 (tryCatch (pyNext (.ref It)) _ >>= _) _ _ _
    refine wpAny_bind (wpAny_tryCatch (W.done _ _ _ ⟨by rw [hsz, show xs.length = j + 1 by omega]; exact hit, hl⟩ fun h1 tk1 hk1 => ?_))
    have hk1 : ∀ b u, b ≠ It → s.heap.get? b = some u → h1.get? b = some u := fun b u n e => hk1 b u (by simpa using n) e
    have I0 : Inv X pins σ H s := I.sub fun p hp => .tail _ (.tail _ hp)
    have cne : ∀ {a : Addr} {o : Obj}, s.heap.get? a = some o → (∀ v, o.data ≠ .cell v) → ∀ x c, X.env.cells.lookup x = some c → c ≠ a := fun {a o} ho hd x c e z => by
      obtain ⟨v, oc, h1, h2⟩ := I.cell x c e
      rw [z, ho] at h1
      cases h1
      exact hd v h2
    have hS1 := hk1 S _ hSI nS.1
    have s1 := Heap.SameBut.update h1 S (Obj.mapSeq fun _ => (#[] : Array Value))
    have I1 : Inv X pins σ H { s with heap := h1, toks := tk1 } := I0.turned (it := It) hk1 nI.2.1 nI.2.2.1 (.inr hI0) (cne nI.1 nI.2.2.2.2) hpI
    have cne1 : ∀ x c, X.env.cells.lookup x = some c → c ≠ S := cne nS.1 nS.2.2.2.2
    show wpAny _ X.A.in1 (updateSeq S (fun _ => #[]) >>= _) _ _ _
    refine wpAny_bind ?_
    refine wpAny_updateSeq hS1 rfl (wpAny_bind (wpAny_letGo (wpAny_pure ?_)))
    refine hR i v vb g _ hv hg rv (fun h hh => ?_) ?_
    · obtain ⟨q, hq, e⟩ := List.getElem_of_mem hh
      exact hbest q h (by omega) (by rw [List.getElem?_eq_getElem hq, e])
    · exact I1.turned (it := S) (fun b u n e => (s1.2 b n).trans e) nS.2.1 nS.2.2.1 (.inr hS0) cne1 hpS
  | succ r ih =>
    intro j i s v g vb c oI hr hj I hit hv hg rv hbest
    have hlt : j + 1 < xs.length := by omega
    obtain ⟨us, rus, hl⟩ := list_at I hJl
    have hsz : us.toArray.size = xs.length := by rw [List.size_toArray, rus.length]
    have nS := I.pin (S, _) (List.mem_append_right _ (.head _))
    have nI := I.pin (It, oI) (List.mem_append_right _ (.tail _ (.head _)))
    have hlI : l ≠ It := fun z => by have := nI.2.1; rw [← z, hJl] at this; cases this
    have W := Walks.list (prog := X.prog) (w := X.w) (A := X.A.in1) hh It l hlI us.toArray
    refine codeAny_builtin PySem.F.entry_min_loop ?_
    rw [Around.under_plainId PySem.F.plain_min_loop _]
    show wpAny _ X.A.in1 (seqItems? (.ref S) >>= _) _ _ _
    refine wpAny_bind (wpAny_seqItems nS.1 rfl ?_)
    show wpAny _ X.A.in1 (tryCatch (pyNext (.ref It)) _ >>= _) _ _ _
    refine wpAny_bind (wpAny_tryCatch (W.item (j + 1) _ _ _ (by rw [hsz]; exact hlt) ⟨hit, hl⟩ fun u h1 tk1 hP hst1 hk1 => ?_))
    have hu1 : us[j + 1]? = some u := by simpa using hP
    obtain ⟨v1, hv1⟩ : ∃ v1, xs[j + 1]? = some v1 := ⟨_, List.getElem?_eq_getElem hlt⟩
    obtain ⟨g1, hg1⟩ : ∃ g1, gs[j + 1]? = some g1 := ⟨_, List.getElem?_eq_getElem (by omega)⟩
    have rv1 : RelV v1 u := by
      obtain ⟨u', hu', ru⟩ := rus.get hv1
      rw [hu1] at hu'; cases hu'
      exact ru
    obtain ⟨oI1, hoI1, hoc, hod⟩ := id hst1.1
    have hk1 : ∀ b u, b ≠ It → s.heap.get? b = some u → h1.get? b = some u := fun b u n e => hk1 b u (by simpa using n) e
    have I1 : Inv X ((S, seqObj "list" #[vb, vb] c) :: (It, oI1) :: pins) σ H { s with heap := h1, toks := tk1 } :=
      ((I.sub swap).repin (t' := tk1) hI0 (hpI' _) hk1 hoI1 fun v e => by rw [hod] at e; cases e).sub swap
    obtain ⟨a1, k1⟩ := hG.2 (j + 1) v1 g1 hv1 hg1
    obtain ⟨a0, k0⟩ := hG.2 i v g hv hg
    have nS2 := I1.pin (S, _) (List.mem_append_right _ (.head _))
    have nI2 := I1.pin (It, oI1) (List.mem_append_right _ (.tail _ (.head _)))
    show wpAny _ X.A.in1 (tryCatch (holding [u, u] (richCompare .Lt u vb >>= _)) _ >>= _) _ _ _
    have hu' : X.A.in1.units < cLine := by show X.A.units + 1 < _; omega
    refine wpAny_bind (wpAny_tryCatch (wpAny_holding (wpAny_bind (rc_at I1 hu' a1 a0 (k1.trans k0.symm) rv1 rv ?_))))
    refine wpAny_bind (wpAny_holding (wpAny_truthy_bool ?_))
    refine wpAny_bind (wpAny_letGo (wpAny_pure ?_))
    cases hb' : g1.lt g with
    | true =>
      have s1 := Heap.SameBut.update h1 S (Obj.mapSeq fun _ => #[u, u])
      obtain ⟨c2, hc2⟩ : ∃ c2, (h1.update S (Obj.mapSeq fun _ => #[u, u])).get? S = some (seqObj "list" #[u, u] c2) := ⟨_, get?_update_seq nS2.1 fun _ => #[u, u]⟩
      simp only [if_true]
      refine wpAny_bind ?_
      refine wpAny_updateSeq nS2.1 rfl (wpAny_bind (wpAny_letGo ?_))
      rw [hname]
      refine wpAny_pure ⟨plainId_quiet PySem.F.plain_min_loop _, ih (j + 1) (j + 1) _ v1 g1 u c2 oI1 (by omega) hlt (I1.repin (t' := tk1) hS0 (hpS' _) (fun b u n e => (s1.2 b n).trans e) hc2 fun v e => by cases e) ⟨oI1, (s1.2 It hSI.symm).trans nI2.1, hoc, hod⟩ hv1 hg1 rv1 fun j' h hj' hh => ?_⟩
      by_cases e : j' = j + 1
      · subst e
        rw [hg1] at hh; cases hh
        exact Tg.irr _
      · exact Tg.tr (Tg.as hb') (hbest j' h (by omega) hh)
    | false =>
      simp only [Bool.false_eq_true, if_false]
      refine wpAny_bind (wpAny_letGo ?_)
      rw [hname]
      refine wpAny_pure ⟨plainId_quiet PySem.F.plain_min_loop _, ih (j + 1) i _ v g vb c oI1 (by omega) hlt I1 ⟨oI1, nI2.1, hoc, hod⟩ hv hg rv fun j' h hj' hh => ?_⟩
      by_cases e : j' = j + 1
      · subst e
        rw [hg1] at hh; cases hh
        exact hb'
      · exact hbest j' h (by omega) hh
theorem mt_min {X : Cx} {pins : List (Addr × Obj)} {σ : St} {H : Hp} {s : Shared} {l : Addr} {xs : List V} {gs : List Tg} {p : Bool} {Q : VK} {E : Value → Shared → Prop} (hh : X.A.handled = none) (hu : X.A.units + 2 < cLine) (I : Inv X pins σ H s) (hl0 : H l = some (.lst xs)) (hne : 0 < xs.length) (hG : Gs X.K H p xs gs)
    (hQ : ∀ (i : Nat) v g, xs[i]? = some v → gs[i]? = some g → (∀ h ∈ gs, h.lt g = false) → Q v H) :
    wpAny (model X.prog X.w) X.A (call (.builtin "min") [.ref l]) (EP X pins σ Q) E s := by
  have hname : (toString "min" ++ toString ".loop" : String) = "min.loop" := by decide
  obtain ⟨us, rus, hls⟩ := list_at I hl0
  have hsz : us.toArray.size = xs.length := by rw [List.size_toArray, rus.length]
  obtain ⟨ol, hol, _⟩ := id hls
  have hll : l < s.heap.objs.size := Heap.lt_size hol
  refine kmk_tree PySem.F.kind_min PySem.F.plain_min PySem.F.entry_min (PySem.F.args_min1 _) ?_
  show wpAny _ X.A.in1 (Builtin.Builtins.bindParams "min" ["key", "default"] 0 ⟨[], []⟩ >>= _) _ _ s
  refine wpAny_bind (wpAny_of_eq (show Builtin.Builtins.bindParams "min" ["key", "default"] 0 ⟨[], []⟩ = pure [none, none] from rfl) ?_)
  refine wpAny_bind (wpAny_pure ?_)
  refine wpAny_bind (wpAny_pyIter_list hls ?_)
  refine wpAny_bind (wpAny_newList ?_ (Nat.zero_le _))
  rw [hname]
  generalize hIt : s.heap.objs.size = It at *
  have I1 : Inv X ((It, { cls := .type "list_iterator", data := .fields #[.ref l, .int 0 0] }) :: pins) σ H { s with heap := s.heap.push { cls := .type "list_iterator", data := .fields #[.ref l, .int 0 0] } } :=
    I.pinNew (t' := s.toks) (a := It) (by rw [hIt]; exact Nat.le_refl _) (fun b u e => Heap.get?_push_of_some _ e) (by rw [← hIt]; exact Heap.get?_push_size _ rfl) fun v e => by cases e
  have hS : (s.heap.push { cls := .type "list_iterator", data := .fields #[.ref l, .int 0 0] }).objs.size = It + 1 := by rw [size_push', hIt]
  generalize hSS : (s.heap.push { cls := .type "list_iterator", data := .fields #[.ref l, .int 0 0] }).objs.size = S at *
  have I2 := I1.pinNew (t' := s.toks) (h' := (s.heap.push { cls := .type "list_iterator", data := .fields #[.ref l, .int 0 0] }).push (seqObj "list" #[] 0)) (a := S) (o := seqObj "list" #[] 0) (Nat.le_of_eq hSS) (fun b u e => Heap.get?_push_of_some _ e) (by rw [← hSS]; exact Heap.get?_push_size _ rfl) fun v e => by cases e
  have hSI : S ≠ It := by rw [hS]; exact Nat.ne_of_gt (Nat.lt_succ_self _)
  have hI0 : X.s₀.heap.objs.size ≤ It := by rw [← hIt]; exact I.sz
  have hS0 : X.s₀.heap.objs.size ≤ S := by rw [hS]; exact Nat.le_succ_of_le hI0
  have old : ∀ p ∈ X.pn ++ pins, p.1 < It := fun p hp => by rw [← hIt]; exact Heap.lt_size (I.pin p hp).1
  have hpI : ∀ p ∈ X.pn ++ pins, p.1 ≠ It := fun p hp => Nat.ne_of_lt (old p hp)
  have hpS : ∀ p ∈ X.pn ++ pins, p.1 ≠ S := fun p hp => by rw [hS]; exact Nat.ne_of_lt (Nat.lt_succ_of_lt (old p hp))
  have hlI : l ≠ It := Nat.ne_of_lt hll
  refine wpAny_pure ⟨plainId_quiet PySem.F.plain_min_loop _, ?_⟩
  generalize hs2 : ({ s with heap := (s.heap.push { cls := .type "list_iterator", data := .fields #[.ref l, .int 0 0] }).push (seqObj "list" #[] 0) } : Shared) = s2 at I2
  show codeAny _ _ (.builtin "min.loop" ⟨[.ref It, .none, .ref S], []⟩) _ s2
  have nS := I2.pin (S, _) (List.mem_append_right _ (.head _))
  have nI := I2.pin (It, _) (List.mem_append_right _ (.tail _ (.head _)))
  have W := Walks.list (prog := X.prog) (w := X.w) (A := X.A.in1) hh It l hlI us.toArray
  have hls2 : s2.heap.IsList l us.toArray := by
    obtain ⟨o, a, b⟩ := hls
    rw [← hs2]
    exact ⟨o, Heap.get?_push_of_some _ (Heap.get?_push_of_some _ a), b⟩
  refine codeAny_builtin PySem.F.entry_min_loop ?_
  rw [Around.under_plainId PySem.F.plain_min_loop _]
  show wpAny _ X.A.in1 (seqItems? (.ref S) >>= _) _ _ _
  refine wpAny_bind (wpAny_seqItems nS.1 rfl ?_)
  show wpAny _ X.A.in1 (tryCatch (pyNext (.ref It)) _ >>= _) _ _ _
  refine wpAny_bind (wpAny_tryCatch (W.item 0 _ _ _ (by rw [hsz]; exact hne) ⟨⟨_, nI.1, rfl, rfl⟩, hls2⟩ fun u h1 tk1 hP hst1 hk1 => ?_))
  have hu1 : us[0]? = some u := by simpa using hP
  obtain ⟨v1, hv1⟩ : ∃ v1, xs[0]? = some v1 := ⟨_, List.getElem?_eq_getElem hne⟩
  have hgl := hG.1
  obtain ⟨g1, hg1⟩ : ∃ g1, gs[0]? = some g1 := ⟨_, List.getElem?_eq_getElem (by omega)⟩
  have rv1 : RelV v1 u := by
    obtain ⟨u', hu', ru⟩ := rus.get hv1
    rw [hu1] at hu'; cases hu'
    exact ru
  obtain ⟨oI1, hoI1, hoc, hod⟩ := id hst1.1
  have hk1 : ∀ b u, b ≠ It → s2.heap.get? b = some u → h1.get? b = some u := fun b u n e => hk1 b u (by simpa using n) e
  have swap : ∀ {a b : Addr × Obj}, ∀ p ∈ a :: b :: pins, p ∈ b :: a :: pins := fun {a b} p hp => by
    rcases List.mem_cons.mp hp with rfl | hp
    · exact .tail _ (.head _)
    · rcases List.mem_cons.mp hp with rfl | hp
      · exact .head _
      · exact .tail _ (.tail _ hp)
  have I3 : Inv X ((S, seqObj "list" #[] 0) :: (It, oI1) :: pins) σ H { s2 with heap := h1, toks := tk1 } :=
    ((I2.sub swap).repin (t' := tk1) hI0 (fun p hp => by
      rcases List.mem_append.mp hp with hp | hp
      · exact hpI p (List.mem_append_left _ hp)
      · rcases List.mem_cons.mp hp with rfl | hp
        · exact hSI
        · exact hpI p (List.mem_append_right _ hp)) hk1 hoI1 fun v e => by rw [hod] at e; cases e).sub swap
  have nS2 := I3.pin (S, _) (List.mem_append_right _ (.head _))
  have nI2 := I3.pin (It, oI1) (List.mem_append_right _ (.tail _ (.head _)))
  have s1 := Heap.SameBut.update h1 S (Obj.mapSeq fun _ => #[u, u])
  obtain ⟨c2, hc2⟩ : ∃ c2, (h1.update S (Obj.mapSeq fun _ => #[u, u])).get? S = some (seqObj "list" #[u, u] c2) := ⟨_, get?_update_seq nS2.1 fun _ => #[u, u]⟩
  show wpAny _ X.A.in1 (updateSeq S (fun _ => #[u, u]) >>= _) _ _ _
  refine wpAny_bind ?_
  refine wpAny_updateSeq nS2.1 rfl ?_
  rw [hname]
  refine wpAny_pure ⟨plainId_quiet PySem.F.plain_min_loop _, mt_loop hh hu hl0 hG hI0 hS0 hpI hpS hSI (fun i v u g s' hv hg ru hb I => ⟨v, H, I, ru, hQ i v g hv hg hb⟩) _ 0 0 _ v1 g1 u c2 oI1 rfl hne (I3.repin (t' := tk1) hS0 (fun p hp => ?_) (fun b u n e => (s1.2 b n).trans e) hc2 fun v e => by cases e) ⟨oI1, (s1.2 _ hSI.symm).trans nI2.1, hoc, hod⟩ hv1 hg1 rv1 fun j' h hj' hh' => ?_⟩
  · rcases List.mem_append.mp hp with hp | hp
    · exact hpS p (List.mem_append_left _ hp)
    · rcases List.mem_cons.mp hp with rfl | hp
      · exact hSI.symm
      · exact hpS p (List.mem_append_right _ hp)
  · have e : j' = 0 := by omega
    subst e
    rw [hg1] at hh'; cases hh'
    exact Tg.irr _
section
variable {X : Cx} {K : PySem.W.Frag} {m : Nat}
def minTL (K : PySem.W.Frag) (a : Addr) (H : Hp) (Q : VK) : Prop := ∃ xs gs p, H a = some (.lst xs) ∧ 0 < xs.length ∧ Gs K H p xs gs ∧ ∀ (i : Nat) v g, xs[i]? = some v → gs[i]? = some g → (∀ h ∈ gs, h.lt g = false) → Q v H
def wMinT (K : PySem.W.Frag) : List V → Hp → VK → Prop := fun xs H Q => match xs with
  | [.int i, .int j] => Q (.int (if j < i then j else i)) H
  | [.ref a] => minTL K a H Q
  | _ => False
theorem w_minT (hK : X.K = K) (hc : X.calm = true) (hr : Room m X.A) : CallR X (.builtin "min") (wMinT K) := by
  subst hK
  intro pins s σ H xs us Q I rs h
  match xs, h with
  | [.int i, .int j], h => exact w_min hc pins s σ H _ us Q I rs h
  | [.ref a], h =>
    obtain ⟨ys, gs, p, h1, h2, h3, h4⟩ := h
    obtain ⟨u, rfl, ru⟩ := vals1 rs
    cases ru
    exact mt_min hr.hd (by have := hr.un; omega) I h1 h2 h3 h4
theorem minTLI {a : Addr} {H : Hp} {Q : VK} {xs : List V} {gs : List Tg} {p : Bool} (h1 : H a = some (.lst xs)) (h2 : 0 < xs.length) (h3 : Gs K H p xs gs) (h4 : ∀ (i : Nat) v g, xs[i]? = some v → gs[i]? = some g → (∀ h ∈ gs, h.lt g = false) → Q v H) : minTL K a H Q := ⟨xs, gs, p, h1, h2, h3, h4⟩
end
end L2

set_option Elab.async false
set_option linter.all false
set_option maxRecDepth 100000
set_option maxHeartbeats 1000000
namespace L2
/-! ### heaps as lists of things -/
def ga (gs : List Tg) (i : Nat) : Tg := gs.getD i (.n 0)
theorem ga_some {gs : List Tg} {i : Nat} (h : i < gs.length) : gs[i]? = some (ga gs i) := by
  unfold ga; rw [List.getD, List.getElem?_eq_getElem h]; rfl
theorem ga_of {gs : List Tg} {i : Nat} {g : Tg} (h : gs[i]? = some g) : ga gs i = g := by
  unfold ga; rw [List.getD, h]; rfl
def sw (gs : List Tg) (i j : Nat) : List Tg := (gs.set i (ga gs j)).set j (ga gs i)
theorem sw_len (gs : List Tg) (i j : Nat) : (sw gs i j).length = gs.length := by unfold sw; simp
theorem ga_set {gs : List Tg} {i q : Nat} {g : Tg} (h : i < gs.length) : ga (gs.set i g) q = if q = i then g else ga gs q := by
  unfold ga
  rw [List.getD, List.getD, List.getElem?_set]
  by_cases e : i = q
  · subst e
    rw [if_pos rfl, if_pos h, if_pos rfl]; rfl
  · rw [if_neg e, if_neg (Ne.symm e)]
theorem ga_sw {gs : List Tg} {i j q : Nat} (hi : i < gs.length) (hj : j < gs.length) : ga (sw gs i j) q = if q = j then ga gs i else if q = i then ga gs j else ga gs q := by
  unfold sw
  rw [ga_set (by simpa using hj), ga_set hi]
theorem sw_perm {gs : List Tg} {i j : Nat} (hi : i < gs.length) (hj : j < gs.length) : (sw gs i j).Perm gs := by
  have h1 : ga gs i = gs[i] := ga_of (List.getElem?_eq_getElem hi)
  have h2 : ga gs j = gs[j] := ga_of (List.getElem?_eq_getElem hj)
  unfold sw
  rw [h1, h2]
  exact List.set_set_perm hi hj
def HpOk (gs : List Tg) : Prop := ∀ j, 0 < j → j < gs.length → (ga gs j).lt (ga gs ((j - 1) / 2)) = false
structure Ri (gs : List Tg) (k : Nat) : Prop where
  lt : k < gs.length
  ok : ∀ j, 0 < j → j < gs.length → j ≠ k → (ga gs j).lt (ga gs ((j - 1) / 2)) = false
  up : 0 < k → ∀ j, 0 < j → j < gs.length → (j - 1) / 2 = k → (ga gs j).lt (ga gs ((k - 1) / 2)) = false
theorem Ri.done {gs : List Tg} {k : Nat} (r : Ri gs k) (h : 0 < k → (ga gs k).lt (ga gs ((k - 1) / 2)) = false) : HpOk gs := fun j h0 hj => by
  by_cases e : j = k
  · subst e; exact h h0
  · exact r.ok j h0 hj e
theorem Ri.step {gs : List Tg} {k : Nat} (r : Ri gs k) (h0 : 0 < k) (h : (ga gs k).lt (ga gs ((k - 1) / 2)) = true) : Ri (sw gs k ((k - 1) / 2)) ((k - 1) / 2) := by
  have hk := r.lt
  have hp : (k - 1) / 2 < gs.length := by omega
  have hle := Tg.as h
  refine ⟨by rw [sw_len]; exact hp, fun j j0 hj hne => ?_, fun p0 j j0 hj e => ?_⟩
  · rw [sw_len] at hj
    rw [ga_sw hk hp, ga_sw hk hp, if_neg hne]
    by_cases e1 : j = k
    · subst e1
      rw [if_pos rfl, if_pos rfl]
      exact hle
    · rw [if_neg e1]
      by_cases e2 : (j - 1) / 2 = (k - 1) / 2
      · rw [if_pos e2]
        have := r.ok j j0 hj e1
        rw [e2] at this
        exact Tg.tr hle this
      · rw [if_neg e2]
        by_cases e3 : (j - 1) / 2 = k
        · rw [if_pos e3]
          exact r.up h0 j j0 hj e3
        · rw [if_neg e3]
          exact r.ok j j0 hj e1
  · rw [sw_len] at hj
    rw [ga_sw hk hp, ga_sw hk hp, if_neg (by omega : j ≠ (k - 1) / 2), if_neg (by omega : ((k - 1) / 2 - 1) / 2 ≠ (k - 1) / 2), if_neg (by omega : ((k - 1) / 2 - 1) / 2 ≠ k)]
    have hpp := r.ok ((k - 1) / 2) p0 hp (by omega)
    by_cases e1 : j = k
    · rw [if_pos e1]
      exact hpp
    · rw [if_neg e1]
      have := r.ok j j0 hj e1
      rw [e] at this
      exact Tg.tr hpp this
theorem ga_app {gs : List Tg} {g : Tg} {j : Nat} (h : j < gs.length) : ga (gs ++ [g]) j = ga gs j := by
  unfold ga; rw [List.getD, List.getD, List.getElem?_append_left h]
theorem Ri.start {gs : List Tg} (h : HpOk gs) (g : Tg) : Ri (gs ++ [g]) gs.length := by
  refine ⟨by simp, fun j j0 hj hne => ?_, fun h0 j j0 hj e => ?_⟩
  · have hj : j < gs.length + 1 := by simpa using hj
    rw [ga_app (by omega), ga_app (by omega)]
    exact h j j0 (by omega)
  · have hj : j < gs.length + 1 := by simpa using hj
    omega
structure Si (gs : List Tg) (k : Nat) : Prop where
  ok : ∀ j, 0 < j → j < gs.length → (j - 1) / 2 ≠ k → (ga gs j).lt (ga gs ((j - 1) / 2)) = false
  up : 0 < k → ∀ j, 0 < j → j < gs.length → (j - 1) / 2 = k → (ga gs j).lt (ga gs ((k - 1) / 2)) = false
def low (gs : List Tg) (k : Nat) : Nat := if 2 * k + 2 < gs.length ∧ (ga gs (2 * k + 2)).lt (ga gs (2 * k + 1)) = true then 2 * k + 2 else 2 * k + 1
theorem low_or (gs : List Tg) (k : Nat) : low gs k = 2 * k + 2 ∨ low gs k = 2 * k + 1 := by unfold low; split <;> simp
theorem low_le {gs : List Tg} {k j : Nat} (j0 : 0 < j) (hj : j < gs.length) (e : (j - 1) / 2 = k) : low gs k < gs.length ∧ (ga gs j).lt (ga gs (low gs k)) = false := by
  unfold low
  have : j = 2 * k + 1 ∨ j = 2 * k + 2 := by omega
  split
  · rename_i h
    refine ⟨h.1, ?_⟩
    rcases this with rfl | rfl
    · exact Tg.as h.2
    · exact Tg.irr _
  · rename_i h
    rcases this with rfl | rfl
    · exact ⟨hj, Tg.irr _⟩
    · refine ⟨by omega, ?_⟩
      cases z : (ga gs (2 * k + 2)).lt (ga gs (2 * k + 1)) with
      | false => rfl
      | true => exact absurd ⟨hj, z⟩ h
theorem Si.done {gs : List Tg} {k : Nat} (r : Si gs k) (h : low gs k < gs.length → (ga gs (low gs k)).lt (ga gs k) = false) : HpOk gs := fun j h0 hj => by
  by_cases e : (j - 1) / 2 = k
  · obtain ⟨h1, h2⟩ := low_le h0 hj e
    rw [e]
    exact Tg.tr (h h1) h2
  · exact r.ok j h0 hj e
theorem Si.step {gs : List Tg} {k : Nat} (r : Si gs k) (hc : low gs k < gs.length) (h : (ga gs (low gs k)).lt (ga gs k) = true) : Si (sw gs k (low gs k)) (low gs k) := by
  have hl := low_or gs k
  have hll := fun {j : Nat} => @low_le gs k j
  generalize low gs k = c at *
  have hk : k < gs.length := by omega
  have hle := Tg.as h
  refine ⟨fun j j0 hj hne => ?_, fun p0 j j0 hj e => ?_⟩
  · rw [sw_len] at hj
    rw [ga_sw hk hc, ga_sw hk hc, if_neg hne]
    by_cases e1 : j = c
    · rw [if_pos e1, if_pos (by omega)]
      exact hle
    · rw [if_neg e1]
      by_cases e2 : j = k
      · subst e2
        rw [if_pos rfl, if_neg (by omega)]
        exact r.up j0 c (by omega) hc (by omega)
      · rw [if_neg e2]
        by_cases e3 : (j - 1) / 2 = k
        · rw [if_pos e3]
          exact (hll j0 hj e3).2
        · rw [if_neg e3]
          exact r.ok j j0 hj e3
  · rw [sw_len] at hj
    rw [ga_sw hk hc, ga_sw hk hc, if_neg (by omega : j ≠ c), if_neg (by omega : j ≠ k), if_neg (by omega : (c - 1) / 2 ≠ c), if_pos (by omega : (c - 1) / 2 = k)]
    have := r.ok j j0 hj (by omega)
    rw [e] at this
    exact this
theorem ga_dl {gs : List Tg} {j : Nat} (h : j < gs.length - 1) : ga gs.dropLast j = ga gs j := by
  unfold ga; rw [List.getD, List.getD, List.getElem?_dropLast, if_pos h]
theorem Si.start {gs : List Tg} (h : HpOk gs) (hn : 0 < gs.length) : Si (sw gs 0 (gs.length - 1)).dropLast 0 := by
  refine ⟨fun j j0 hj hne => ?_, fun h0 => absurd h0 (Nat.lt_irrefl _)⟩
  rw [List.length_dropLast, sw_len] at hj
  rw [ga_dl (by rw [sw_len]; exact hj), ga_dl (by rw [sw_len]; omega), ga_sw hn (by omega), ga_sw hn (by omega), if_neg (by omega), if_neg (by omega), if_neg (by omega), if_neg hne]
  exact h j j0 (by omega)
theorem HpOk.root {gs : List Tg} (h : HpOk gs) : ∀ n j, j < n → j < gs.length → (ga gs j).lt (ga gs 0) = false := by
  intro n
  induction n with
  | zero => intro j hj; omega
  | succ n ih =>
    intro j hj hl
    by_cases e : j = 0
    · subst e; exact Tg.irr _
    · exact Tg.tr (ih ((j - 1) / 2) (by omega) (by omega)) (h j (by omega) hl)
theorem HpOk.least {gs : List Tg} (h : HpOk gs) {g : Tg} (hg : g ∈ gs) : g.lt (ga gs 0) = false := by
  obtain ⟨q, hq, e⟩ := List.getElem_of_mem hg
  have := h.root (q + 1) q (Nat.lt_succ_self _) hq
  rw [ga_of (List.getElem?_eq_getElem hq), e] at this
  exact this
theorem dl_last : ∀ {l : List Tg}, 0 < l.length → l.dropLast ++ [ga l (l.length - 1)] = l
  | [x], _ => rfl
  | x :: y :: l, _ => by
    have := dl_last (l := y :: l) (by simp)
    rw [List.dropLast_cons₂, List.cons_append]
    exact congrArg (x :: ·) this
theorem take_perm {gs : List Tg} (hn : 0 < gs.length) : (ga gs 0 :: (sw gs 0 (gs.length - 1)).dropLast).Perm gs := by
  have h3 := ga_sw (q := gs.length - 1) hn (show gs.length - 1 < gs.length by omega)
  rw [if_pos rfl] at h3
  have h4 := dl_last (l := sw gs 0 (gs.length - 1)) (by rw [sw_len]; exact hn)
  rw [sw_len, h3] at h4
  have h5 : (ga gs 0 :: (sw gs 0 (gs.length - 1)).dropLast).Perm ((sw gs 0 (gs.length - 1)).dropLast ++ [ga gs 0]) := (List.perm_append_singleton _ _).symm
  rw [h4] at h5
  exact h5.trans (sw_perm hn (by omega))
theorem erase_perm : ∀ {ks : List Tg} {j : Nat} {g : Tg}, ks[j]? = some g → (g :: ks.eraseIdx j).Perm ks
  | [], j, g, h => by simp at h
  | k :: ks, 0, g, h => by cases h; exact List.Perm.refl _
  | k :: ks, j + 1, g, h => by
    have := erase_perm (ks := ks) (j := j) (g := g) h
    rw [List.eraseIdx_cons_succ]
    exact (List.Perm.swap k g _).trans (this.cons k)
theorem rem_perm {ks gs : List Tg} {g : Tg} {j : Nat} (h : (g :: gs).Perm ks) (hj : ks[j]? = some g) : (ks.eraseIdx j).Perm gs :=
  ((erase_perm hj).trans h.symm).cons_inv
theorem first_at {ks : List Tg} {g : Tg} (h : g ∈ ks) : ∃ j : Nat, ks[j]? = some g ∧ ∀ q, q < j → ks[q]? ≠ some g := by
  induction ks with
  | nil => cases h
  | cons k ks ih =>
    by_cases e : k = g
    · exact ⟨0, by rw [e]; rfl, fun q hq => absurd hq (Nat.not_lt_zero _)⟩
    · rcases List.mem_cons.mp h with h | h
      · exact absurd h.symm e
      · obtain ⟨j, h1, h2⟩ := ih h
        refine ⟨j + 1, h1, fun q hq => ?_⟩
        cases q with
        | zero => intro z; exact e (Option.some.inj z)
        | succ q => exact h2 q (by omega)
theorem min_is {gs ks : List Tg} {g : Tg} (h : HpOk gs) (hp : gs.Perm ks) (hg : g ∈ ks) (hm : ∀ k ∈ ks, k.lt g = false) (hn : 0 < gs.length) : g = ga gs 0 := by
  have h0 : ga gs 0 ∈ gs := List.mem_of_getElem? (ga_some hn)
  exact Tg.anti (h.least (hp.symm.subset hg)) (hm _ (hp.subset h0))
theorem Gs.set {K : PySem.W.Frag} {H : Hp} {p : Bool} {xs : List V} {gs : List Tg} {x : V} {g : Tg} (h : Gs K H p xs gs) (hx : TgAt K H x g) (hp : g.pl = p) (i : Nat) : Gs K H p (xs.set i x) (gs.set i g) := by
  refine ⟨by simp [h.1], fun j y k hy hk => ?_⟩
  rw [List.getElem?_set] at hy hk
  by_cases e : i = j
  · rw [if_pos e] at hy hk
    by_cases l : i < xs.length
    · rw [if_pos l] at hy
      rw [if_pos (by have := h.1; omega)] at hk
      cases hy; cases hk
      exact ⟨hx, hp⟩
    · rw [if_neg l] at hy; cases hy
  · rw [if_neg e] at hy hk
    exact h.2 j y k hy hk
theorem Gs.app {K : PySem.W.Frag} {H : Hp} {p : Bool} {xs : List V} {gs : List Tg} {x : V} {g : Tg} (h : Gs K H p xs gs) (hx : TgAt K H x g) (hp : g.pl = p) : Gs K H p (xs ++ [x]) (gs ++ [g]) := by
  have h1 := h.1
  refine ⟨by simp [h1], fun j y k hy hk => ?_⟩
  by_cases e : j < xs.length
  · rw [List.getElem?_append_left e] at hy
    rw [List.getElem?_append_left (by omega)] at hk
    exact h.2 j y k hy hk
  · rw [List.getElem?_append_right (by omega)] at hy hk
    cases e2 : j - xs.length with
    | zero =>
      rw [e2] at hy
      rw [show j - gs.length = 0 by omega] at hk
      cases hy; cases hk
      exact ⟨hx, hp⟩
    | succ n => rw [e2] at hy; simp at hy
theorem Gs.dropLast {K : PySem.W.Frag} {H : Hp} {p : Bool} {xs : List V} {gs : List Tg} (h : Gs K H p xs gs) : Gs K H p xs.dropLast gs.dropLast := by
  have h1 := h.1
  refine ⟨by simp [h1], fun j y k hy hk => ?_⟩
  rw [List.getElem?_dropLast] at hy hk
  by_cases e : j < xs.length - 1
  · rw [if_pos e] at hy
    rw [if_pos (by omega)] at hk
    exact h.2 j y k hy hk
  · rw [if_neg e] at hy; cases hy
theorem Gs.eraseIdx {K : PySem.W.Frag} {H : Hp} {p : Bool} {xs : List V} {gs : List Tg} (h : Gs K H p xs gs) (i : Nat) : Gs K H p (xs.eraseIdx i) (gs.eraseIdx i) := by
  have h1 := h.1
  refine ⟨by simp [List.length_eraseIdx, h1], fun j y k hy hk => ?_⟩
  rw [List.getElem?_eraseIdx] at hy hk
  split at hy
  · rename_i e
    rw [if_pos e] at hk
    exact h.2 j y k hy hk
  · rename_i e
    rw [if_neg e] at hk
    exact h.2 (j + 1) y k hy hk
theorem Gs.get {K : PySem.W.Frag} {H : Hp} {p : Bool} {xs : List V} {gs : List Tg} (h : Gs K H p xs gs) {i : Nat} (hi : i < gs.length) : ∃ x, xs[i]? = some x ∧ TgAt K H x (ga gs i) ∧ (ga gs i).pl = p := by
  have h1 := h.1
  have hx : xs[i]? = some xs[i] := List.getElem?_eq_getElem (by omega)
  exact ⟨_, hx, h.2 i _ _ hx (ga_some hi)⟩
end L2

set_option Elab.async false
set_option linter.all false
set_option maxRecDepth 100000
set_option maxHeartbeats 1000000
namespace L2
open PySem PySem.Spec PySem.Calls PyProof.Rows PySem.W
/-! ### o.m() that may raise; C() with an __init__ -/
theorem px_meth0 {X : Cx} {o : Expr} {to : TE} {m : Str} {apos pos : Pos} {n k : Nat} (hx : X.xe = fun _ _ => False) (hr : Room k X.A) (hn : n ≤ k) (ho : PE X o to) (hb : notCall0 o = true := by rfl) (hline : (apos.endLine == pos.line) = true := by rfl) :
    PX X (.Call (.Attribute o m apos) [] [] pos) (fun E => wMeth X.prog X.w X.K X.mg X.base (CXE X.prog X.w) n m E to tNil) := by
  intro E pins s σ H Q I h
  refine meth_call hb rfl (by decide) hline (thn (calm_wp hx (ho pins s σ H _ I h)) fun u s1 ⟨x, H1, I1, rx, q⟩ => ?_)
  match x, q with
  | .ref a, ⟨C, dx, fs, sp, ea, l, c, q⟩ =>
    obtain rfl : u = Value.ref a := rx
    obtain ⟨f, fd, ps, cl, hm, F, b⟩ := c.ex
    refine getmeth_ok I1 ea cl hm l ?_
    exact PySem.W.callWith_K0 (first := [.ref a]) I1.kIn hm.kp (run_fnX (us := [.ref a]) (vs := [.ref a]) (F.mono hn) hr b I1 (.cons rfl .nil) q)
theorem we_make0 {X : Cx} {CX : CXT} {x : Str} {p pos : Pos} {n k : Nat} {E : XK} {C : Addr} {sp : Sp} (c : MkCal X.prog X.w X.K X.mg X.base CX n x C sp) (hx : Passes CX X E) (hr : Room k X.A) (hn : n + 1 ≤ k) (hg : Gl X x) (hdb : (x == ("__debug__" : Str)) = false := by decide) :
    PE X (.Call (.Name x p) [] [] pos) (wMake C sp E tNil) := by
  obtain ⟨f, fd, ps, M, F, b, hm⟩ := c.ex
  exact (pe_make0 M F (hr.mono hn) hg hm b .nil hx hdb).imp fun σ H Q h => h
theorem upd_self {H : Hp} {a : Addr} {o : HO} (h : H a = some o) : upd H a o = H := by
  funext b
  unfold upd
  split
  · rename_i e; rw [e, h]
  · rfl
theorem SqT.updL {K : PySem.W.Frag} {H : Hp} {a l : Addr} {xs zs : List V} {o : HO} (h : SqT K H a xs) (hl : H l = some (.lst zs)) : SqT K (upd H l o) a xs := by
  rcases h with (h | ⟨u, h⟩) | h
  · exact .inl (.inl (by rw [upd_ne (ne_of h hl (fun z => by cases z))]; exact h))
  · exact .inl (.inr ⟨u, by rw [upd_ne (ne_of h hl (fun z => by cases z))]; exact h⟩)
  · exact .inr h
theorem TgAt.updL {K : PySem.W.Frag} {H : Hp} {l : Addr} {zs : List V} {o : HO} {v : V} (hl : H l = some (.lst zs)) : ∀ {g : Tg}, TgAt K H v g → TgAt K (upd H l o) v g
  | .n i, h => h
  | .t ns, ⟨a, e, h⟩ => ⟨a, e, h.updL hl⟩
theorem Gs.updL {K : PySem.W.Frag} {H : Hp} {l : Addr} {zs : List V} {o : HO} {p : Bool} {xs : List V} {gs : List Tg} (h : Gs K H p xs gs) (hl : H l = some (.lst zs)) : Gs K (upd H l o) p xs gs := ⟨h.1, fun i x g hx hg => ⟨(h.2 i x g hx hg).1.updL hl, (h.2 i x g hx hg).2⟩⟩
theorem TgAt.same {K : PySem.W.Frag} {H H' : Hp} {v : V} (s : Same H H') : ∀ {g : Tg}, TgAt K H v g → TgAt K H' v g
  | .n i, h => h
  | .t ns, ⟨a, e, h⟩ => ⟨a, e, s.seqT h⟩
theorem Gs.same {K : PySem.W.Frag} {H H' : Hp} {p : Bool} {xs : List V} {gs : List Tg} (h : Gs K H p xs gs) (s : Same H H') : Gs K H' p xs gs := ⟨h.1, fun i x g hx hg => ⟨(h.2 i x g hx hg).1.same s, (h.2 i x g hx hg).2⟩⟩
theorem ixN_nat {n j : Nat} {i : Int} (e : i = (j : Int)) (h : j < n) : ixN n i = some j := by
  subst e
  unfold ixN
  rw [if_pos (by omega), if_pos (by omega)]
  rfl
end L2

set_option Elab.async false
set_option linter.all false
set_option maxRecDepth 100000
set_option maxHeartbeats 1000000
namespace My
open PySem L2 PyProof.Rows
seal PE PT PS PSs PA PI PG PGs PTs PW PO OpR UnR CallR IxR MtR SlR PSet
seal ifB seqLen seqAt signAt catL seqIn intOf isiRef seqTru slSeq joinL appL allL listL tupL itSeq setL unpT forW cmpW wWhile CMul CDiv CPow strIn findV tCut eqRef revL
seal catA isiAny isiExc L2.fldAt L2.putAt L2.methAt newAt clrL rvsL extL popL excO mkT mkL catB anyL seqInD tMk0
seal ltV
def top (i : Nat) : Stmt := PySem.Challenge.pw_liftcourt_k69_heaps.main.body.getD i (.Pass ⟨0, 0, 0, 0⟩)
abbrev sSwap : Stmt := top 15
theorem scSwap : FnScope ["things", "one", "other", "thing"] ["things", "one", "other"] (defScope sSwap) := ⟨rfl, rfl, rfl, by decide +kernel, rfl, by decide +kernel, by decide +kernel⟩
abbrev sRise : Stmt := top 16
theorem scRise : FnScope ["things", "place"] ["things"] (defScope sRise) := ⟨rfl, rfl, rfl, by decide +kernel, rfl, by decide +kernel, by decide +kernel⟩
abbrev sLesserBelow : Stmt := top 17
theorem scLesserBelow : FnScope ["things", "place", "left", "right"] ["things", "place"] (defScope sLesserBelow) := ⟨rfl, rfl, rfl, by decide +kernel, rfl, by decide +kernel, by decide +kernel⟩
abbrev sSink : Stmt := top 18
theorem scSink : FnScope ["things", "place", "below"] ["things"] (defScope sSink) := ⟨rfl, rfl, rfl, by decide +kernel, rfl, by decide +kernel, by decide +kernel⟩
abbrev sLDraw : Stmt := top 21
theorem scLDraw : FnScope ["_law_script", "_law_k", "_law_many", "_law_cell"] ["_law_script", "_law_k", "_law_many"] (defScope sLDraw) := ⟨rfl, rfl, rfl, by decide +kernel, rfl, by decide +kernel, by decide +kernel⟩
abbrev sLOthers : Stmt := top 22
theorem scLOthers : FnScope ["_law_e", "_law_some"] ["_law_e"] (defScope sLOthers) := ⟨rfl, rfl, rfl, by decide +kernel, rfl, by decide +kernel, by decide +kernel⟩
abbrev sLWhole : Stmt := top 23
theorem scLWhole : FnScope ["_law_thing_here"] ["_law_thing_here"] (defScope sLWhole) := ⟨rfl, rfl, rfl, by decide +kernel, rfl, by decide +kernel, by decide +kernel⟩
abbrev sLNumber : Stmt := top 24
theorem scLNumber : FnScope ["_law_script", "_law_k", "_law_number_here"] ["_law_script", "_law_k"] (defScope sLNumber) := ⟨rfl, rfl, rfl, by decide +kernel, rfl, by decide +kernel, by decide +kernel⟩
abbrev sLThing : Stmt := top 25
theorem scLThing : FnScope ["_law_script", "_law_k", "_law_plain"] ["_law_script", "_law_k", "_law_plain"] (defScope sLThing) := ⟨rfl, rfl, rfl, by decide +kernel, rfl, by decide +kernel, by decide +kernel⟩
abbrev sLTaken : Stmt := top 26
theorem scLTaken : FnScope ["_law_heap", "_law_kept", "_law_others_here", "_law_told", "_law_e"] ["_law_heap", "_law_kept"] (defScope sLTaken) := ⟨rfl, rfl, rfl, by decide +kernel, rfl, by decide +kernel, by decide +kernel⟩
abbrev sLSizeRight : Stmt := top 27
theorem scLSizeRight : FnScope ["_law_heap", "_law_kept", "_law_told"] ["_law_heap", "_law_kept"] (defScope sLSizeRight) := ⟨rfl, rfl, rfl, by decide +kernel, rfl, by decide +kernel, by decide +kernel⟩
abbrev sLaw : Stmt := top 28
theorem scLaw : FnScope ["_law_script", "_law_heaps", "_law_kept", "_law_plain", "_law_k", "_law_at", "_law_thing_here"] ["_law_script"] (defScope sLaw) := ⟨rfl, rfl, rfl, by decide +kernel, rfl, by decide +kernel, by decide +kernel⟩
abbrev sNofloorInit : Stmt := clsAt (top 10) 0
abbrev sNoliftInit : Stmt := clsAt (top 11) 0
abbrev sTwiceInit : Stmt := clsAt (top 12) 0
abbrev sToomanyInit : Stmt := clsAt (top 13) 0
abbrev sHeapInit : Stmt := clsAt (top 19) 0
theorem scHeapInit : FnScope ["self"] ["self"] (defScope sHeapInit) := ⟨rfl, rfl, rfl, by decide +kernel, rfl, by decide +kernel, by decide +kernel⟩
abbrev sHeapPut : Stmt := clsAt (top 19) 1
theorem scHeapPut : FnScope ["self", "thing"] ["self", "thing"] (defScope sHeapPut) := ⟨rfl, rfl, rfl, by decide +kernel, rfl, by decide +kernel, by decide +kernel⟩
abbrev sHeapTake : Stmt := clsAt (top 19) 2
theorem scHeapTake : FnScope ["self", "thing"] ["self"] (defScope sHeapTake) := ⟨rfl, rfl, rfl, by decide +kernel, rfl, by decide +kernel, by decide +kernel⟩
abbrev sHeapSize : Stmt := clsAt (top 19) 3
theorem scHeapSize : FnScope ["self"] ["self"] (defScope sHeapSize) := ⟨rfl, rfl, rfl, by decide +kernel, rfl, by decide +kernel, by decide +kernel⟩
section
variable {P : Program} {w : World} {K : PySem.W.Frag} {mg : Str → Option Value} {base : Heap} {f : Addr} {fd : FuncData}
theorem szL {n : Nat} (h : n < 1000000) : n < sizeLine := by rw [sizeLine_eq]; omega
/-! ### the heap -/
def spSwap : Sp := fun vs H Q _ => ∃ l a b xs i j x y, vs = [.ref l, .int a, .int b] ∧ H l = some (.lst xs) ∧ a = ((i : Nat) : Int) ∧ b = ((j : Nat) : Int) ∧ xs[i]? = some x ∧ xs[j]? = some y ∧ Q .non (upd H l (.lst ((xs.set i y).set j x)))
theorem swapI {H : Hp} {l : Addr} {a b : Int} {xs : List V} {i j : Nat} {x y : V} {Q : VK} {E : XK} (h1 : H l = some (.lst xs)) (h2 : a = ((i : Nat) : Int)) (h3 : b = ((j : Nat) : Int)) (h4 : xs[i]? = some x) (h5 : xs[j]? = some y) (q : Q .non (upd H l (.lst ((xs.set i y).set j x)))) : spSwap [.ref l, .int a, .int b] H Q E := ⟨l, a, b, xs, i, j, x, y, rfl, h1, h2, h3, h4, h5, q⟩
theorem ok_swap (F : Fun K "swap" "swap" sSwap f fd) : FnOk P w K mg base CX0 1 f fd ["things", "one", "other"] spSwap := by
  refine F.ok scSwap (fun vs H Q E h => ?_) (fun cdv A outer s H vs Q E hr h => ?_)
  · obtain ⟨l, a, b, xs, i, j, x, y, rfl, _⟩ := h
    rfl
  obtain ⟨l, a, b, xs, i, j, x, y, rfl, e, rfl, rfl, hx, hy, q⟩ := h
  obtain ⟨hi, _⟩ := List.getElem?_eq_some_iff.mp hx
  obtain ⟨hj, _⟩ := List.getElem?_eq_some_iff.mp hy
  refine ⟨_, (pss_cons (ps_set (i := 3) scSwap.nd rfl (Or.inl rfl) (pe_ix (w_ix (K := K) rfl) (wv 0) (wv 1) (fun _ _ => rfl))) (pss_cons (ps_asg (pe_ix (w_ix (K := K) rfl) (wv 0) (wv 2) (fun _ _ => rfl)) (pg_sub (wv 0) (wv 1) w_set)) (pss_one (ps_asg (wv 3) (pg_sub (wv 0) (wv 2) w_set))))), ?_⟩
  conv => whnf
  refine seqAtL (SqL.of e) (atI_nat hx) ?_
  conv => whnf
  refine seqAtL (SqL.of e) (atI_nat hy) ?_
  conv => whnf
  refine setLI e (ixN_nat rfl hi) ?_
  conv => whnf
  refine setLI upd_same (ixN_nat rfl (by simpa using hj)) ?_
  rw [upd_upd]
  exact q
seal spSwap
def spLow (K : PySem.W.Frag) : Sp := fun vs H Q _ => ∃ l k xs gs p, vs = [.ref l, .int ((k : Nat) : Int)] ∧ H l = some (.lst xs) ∧ Gs K H p xs gs ∧ k < 1000 ∧ Q (.int (low gs k)) H
theorem lowI {H : Hp} {l : Addr} {k : Nat} {xs : List V} {gs : List Tg} {p : Bool} {Q : VK} {E : XK} (h1 : H l = some (.lst xs)) (h2 : Gs K H p xs gs) (h3 : k < 1000) (q : Q (.int (low gs k)) H) : spLow K [.ref l, .int ((k : Nat) : Int)] H Q E := ⟨l, k, xs, gs, p, rfl, h1, h2, h3, q⟩
theorem ok_low (F : Fun K "lesser_below" "lesser_below" sLesserBelow f fd) (m_len : mg "len" = none) : FnOk P w K mg base CX0 1 f fd ["things", "place"] (spLow K) := by
  refine F.ok scLesserBelow (fun vs H Q E h => ?_) (fun cdv A outer s H vs Q E hr h => ?_)
  · obtain ⟨l, k, xs, gs, p, rfl, _⟩ := h
    rfl
  obtain ⟨l, k, xs, gs, p, rfl, e, hG, hk, q⟩ := h
  have hgl := hG.1
  refine ⟨_, (pss_cons (ps_set (i := 2) scLesserBelow.nd rfl (Or.inl rfl) (pe_op (w_addY (K := K) rfl) (pe_op w_mul pe_int (wv 1)) pe_int)) (pss_cons (ps_set (i := 3) scLesserBelow.nd rfl (Or.inl rfl) (pe_op (w_addY (K := K) rfl) (wv 2) pe_int)) (pss_one (ps_ret (we_if (PW.pt (ww_and (wt_cmp (w_ltT (K := K) rfl hr) (wv 3) (pe_callBP (w_len (K := K) rfl) rfl m_len PySem.boot_len (pa_c (wv 0) pa_nil)) (nomark _)) (pw_and1 (wt_cmp (w_ltT (K := K) rfl hr) (pe_ix (w_ix (K := K) rfl) (wv 0) (wv 3) (fun _ _ => rfl)) (pe_ix (w_ix (K := K) rfl) (wv 0) (wv 2) (fun _ _ => rfl)) (nomark _))))) (wv 3) (wv 2)))))), ?_⟩
  conv => whnf
  refine ⟨cmul_l (by decide) (by decide), ?_⟩
  conv => whnf
  refine seqLenL (SqL.of e) ?_
  conv => whnf
  refine ltII ?_
  conv => whnf
  by_cases h : 2 * k + 2 < gs.length
  · obtain ⟨x, hx, ax, px⟩ := hG.get h
    obtain ⟨y, hy, ay, py⟩ := hG.get (i := 2 * k + 1) (by omega)
    refine ifDt (by omega) ?_
    conv => whnf
    refine seqAtL (SqL.of e) (by rw [show (2 * (k : Int) + 1 + 1) = ((2 * k + 2 : Nat) : Int) by omega]; exact atI_nat hx) ?_
    conv => whnf
    refine seqAtL (SqL.of e) (by rw [show (2 * (k : Int) + 1) = ((2 * k + 1 : Nat) : Int) by omega]; exact atI_nat hy) ?_
    conv => whnf
    refine lt_at ax ay (px.trans py.symm) ?_
    conv => whnf
    cases hb : (ga gs (2 * k + 2)).lt (ga gs (2 * k + 1)) with
    | true =>
      refine ifB_t rfl ?_
      have : low gs k = 2 * k + 2 := by unfold low; rw [if_pos ⟨h, hb⟩]
      rw [this] at q
      rw [show ((2 * k + 2 : Nat) : Int) = 2 * (k : Int) + 1 + 1 by omega] at q
      exact q
    | false =>
      refine ifB_f rfl ?_
      have : low gs k = 2 * k + 1 := by unfold low; rw [if_neg (fun z => by rw [hb] at z; exact absurd z.2 (by decide))]
      rw [this] at q
      rw [show ((2 * k + 1 : Nat) : Int) = 2 * (k : Int) + 1 by omega] at q
      exact q
  · refine ifDf (by omega) ?_
    have : low gs k = 2 * k + 1 := by unfold low; rw [if_neg (fun z => h z.1)]
    rw [this] at q
    rw [show ((2 * k + 1 : Nat) : Int) = 2 * (k : Int) + 1 by omega] at q
    conv => whnf
    refine ifB_f rfl ?_
    exact q
seal spLow
def spRise (K : PySem.W.Frag) : Sp := fun vs H Q _ => ∃ l xs gs p, vs = [.ref l] ∧ H l = some (.lst xs) ∧ Gs K H p xs gs ∧ 0 < gs.length ∧ gs.length ≤ 1000 ∧ Ri gs (gs.length - 1) ∧ ∀ xs' gs', gs'.Perm gs → HpOk gs' → Gs K H p xs' gs' → Q .non (upd H l (.lst xs'))
theorem riseI {H : Hp} {l : Addr} {xs : List V} {gs : List Tg} {p : Bool} {Q : VK} {E : XK} (h1 : H l = some (.lst xs)) (h2 : Gs K H p xs gs) (h3 : 0 < gs.length) (h4 : gs.length ≤ 1000) (h5 : Ri gs (gs.length - 1)) (q : ∀ xs' gs', gs'.Perm gs → HpOk gs' → Gs K H p xs' gs' → Q .non (upd H l (.lst xs'))) : spRise K [.ref l] H Q E := ⟨l, xs, gs, p, rfl, h1, h2, h3, h4, h5, q⟩
theorem ok_rise (F : Fun K "rise" "rise" sRise f fd) (m_len : mg "len" = none) (c_swap : Cal P w K mg base 1 "swap" ["things", "one", "other"] spSwap) : FnOk P w K mg base CX0 2 f fd ["things"] (spRise K) := by
  refine F.ok scRise (fun vs H Q E h => ?_) (fun cdv A outer s H vs Q E hr h => ?_)
  · obtain ⟨l, xs, gs, p, rfl, _⟩ := h
    rfl
  obtain ⟨l, xs, gs, p, rfl, e, hG, h0, h1, hR, q⟩ := h
  have hgl := hG.1
  refine ⟨_, (pss_cons (ps_set (i := 1) scRise.nd rfl (Or.inl rfl) (pe_op w_sub (pe_callBP (w_len (K := K) rfl) rfl m_len PySem.boot_len (pa_c (wv 0) pa_nil)) pe_int)) (pss_one (ws_while PassesOwn.never (PW.pt (ww_and (wt_cmp w_gt (wv 1) pe_int (nomark _)) (pw_and1 (wt_cmp (w_ltT (K := K) rfl hr) (pe_ix (w_ix (K := K) rfl) (wv 0) (wv 1) (fun _ _ => rfl)) (pe_ix (w_ix (K := K) rfl) (wv 0) (pe_op w_fdiv (pe_op w_sub (wv 1) pe_int) pe_int) (fun _ _ => rfl)) (nomark _))))) (pss_cons (ps_expr (pe_fnP c_swap hr (by decide) rfl (pa_c (wv 0) (pa_c (wv 1) (pa_c (pe_op w_fdiv (pe_op w_sub (wv 1) pe_int) pe_int) pa_nil))))) (pss_one (ps_set (i := 1) scRise.nd rfl (Or.inl rfl) (pe_op w_fdiv (pe_op w_sub (wv 1) pe_int) pe_int))))))), ?_⟩
  conv => whnf
  refine seqLenL (SqL.of e) ?_
  conv => whnf
  refine whileN (fun m σ HY => ∃ (xs' : List V) (gs' : List Tg), σ = [some (.ref l), some (.int ((m : Nat) : Int))] ∧ HY = upd H l (.lst xs') ∧ Gs K H p xs' gs' ∧ gs'.Perm gs ∧ Ri gs' m) ⟨gs.length - 1, xs, gs, by rw [show ((gs.length - 1 : Nat) : Int) = (xs.length : Int) - 1 by omega]; rfl, (upd_self e).symm, hG, List.Perm.refl _, hR⟩ ?_
  rintro m σ HY ⟨xs', gs', rfl, rfl, hG', hP, hR'⟩
  have hgl' := hG'.1
  have hlt := hR'.lt
  conv => whnf
  by_cases hm : 0 < m
  · refine ifDt (by omega) ?_
    obtain ⟨x, hx, ax, px⟩ := hG'.get hlt
    obtain ⟨y, hy, ay, py⟩ := hG'.get (i := (m - 1) / 2) (by omega)
    have eP : ((m : Int) - 1) / 2 = (((m - 1) / 2 : Nat) : Int) := by omega
    conv => whnf
    refine seqAtL (SqL.of upd_same) (atI_nat hx) ?_
    conv => whnf
    refine ⟨cdivI (by decide) (by decide), ?_⟩
    conv => whnf
    refine seqAtL (SqL.of upd_same) (by first | rw [eP]; exact atI_nat hy | (show atI xs' (((m : Int) - 1) / 2) = _; rw [eP]; exact atI_nat hy)) ?_
    conv => whnf
    refine lt_at (ax.updL e) (ay.updL e) (px.trans py.symm) ?_
    conv => whnf
    cases hb : (ga gs' m).lt (ga gs' ((m - 1) / 2)) with
    | false =>
      refine ifB_f rfl ?_
      exact q xs' gs' hP (hR'.done fun _ => hb) hG'
    | true =>
      refine ifB_t rfl ?_
      refine ⟨fun σ HY => ∃ (xs'' : List V) (gs'' : List Tg), σ = [some (.ref l), some (.int (((m - 1) / 2 : Nat) : Int))] ∧ HY = upd H l (.lst xs'') ∧ Gs K H p xs'' gs'' ∧ gs''.Perm gs ∧ Ri gs'' ((m - 1) / 2), fun σ' H' z => ⟨(m - 1) / 2, by omega, z⟩, ?_⟩
      conv => whnf
      refine ⟨cdivI (by decide) (by decide), ?_⟩
      conv => whnf
      refine swapI upd_same rfl eP hx hy ?_
      conv => whnf
      refine ⟨cdivI (by decide) (by decide), ?_⟩
      refine ⟨(xs'.set m y).set ((m - 1) / 2) x, sw gs' m ((m - 1) / 2), by rw [← eP]; rfl, upd_upd, ?_, (sw_perm hlt (by omega)).trans hP, hR'.step hm hb⟩
      exact (hG'.set ay py m).set ax px _
  · refine ifDf (by omega) ?_
    conv => whnf
    refine ifB_f rfl ?_
    exact q xs' gs' hP (hR'.done fun z => absurd z hm) hG'
seal spRise
def spSink (K : PySem.W.Frag) : Sp := fun vs H Q _ => ∃ l xs gs p, vs = [.ref l] ∧ H l = some (.lst xs) ∧ Gs K H p xs gs ∧ gs.length ≤ 900 ∧ Si gs 0 ∧ ∀ xs' gs', gs'.Perm gs → HpOk gs' → Gs K H p xs' gs' → Q .non (upd H l (.lst xs'))
theorem sinkI {H : Hp} {l : Addr} {xs : List V} {gs : List Tg} {p : Bool} {Q : VK} {E : XK} (h1 : H l = some (.lst xs)) (h2 : Gs K H p xs gs) (h4 : gs.length ≤ 900) (h5 : Si gs 0) (q : ∀ xs' gs', gs'.Perm gs → HpOk gs' → Gs K H p xs' gs' → Q .non (upd H l (.lst xs'))) : spSink K [.ref l] H Q E := ⟨l, xs, gs, p, rfl, h1, h2, h4, h5, q⟩
theorem ok_sink (F : Fun K "sink" "sink" sSink f fd) (m_len : mg "len" = none) (c_swap : Cal P w K mg base 1 "swap" ["things", "one", "other"] spSwap) (c_lesser_below : Cal P w K mg base 1 "lesser_below" ["things", "place"] (spLow K)) : FnOk P w K mg base CX0 2 f fd ["things"] (spSink K) := by
  refine F.ok scSink (fun vs H Q E h => ?_) (fun cdv A outer s H vs Q E hr h => ?_)
  · obtain ⟨l, xs, gs, p, rfl, _⟩ := h
    rfl
  obtain ⟨l, xs, gs, p, rfl, e, hG, h1, hR, q⟩ := h
  have hgl := hG.1
  refine ⟨_, (pss_cons (ps_set (i := 1) scSink.nd rfl (Or.inl rfl) pe_int) (pss_cons (ps_set (i := 2) scSink.nd rfl (Or.inl rfl) (pe_fnP c_lesser_below hr (by decide) rfl (pa_c (wv 0) (pa_c (wv 1) pa_nil)))) (pss_one (ws_while PassesOwn.never (PW.pt (ww_and (wt_cmp (w_ltT (K := K) rfl hr) (wv 2) (pe_callBP (w_len (K := K) rfl) rfl m_len PySem.boot_len (pa_c (wv 0) pa_nil)) (nomark _)) (pw_and1 (wt_cmp (w_ltT (K := K) rfl hr) (pe_ix (w_ix (K := K) rfl) (wv 0) (wv 2) (fun _ _ => rfl)) (pe_ix (w_ix (K := K) rfl) (wv 0) (wv 1) (fun _ _ => rfl)) (nomark _))))) (pss_cons (ps_expr (pe_fnP c_swap hr (by decide) rfl (pa_c (wv 0) (pa_c (wv 1) (pa_c (wv 2) pa_nil))))) (pss_cons (ps_set (i := 1) scSink.nd rfl (Or.inl rfl) (wv 2)) (pss_one (ps_set (i := 2) scSink.nd rfl (Or.inl rfl) (pe_fnP c_lesser_below hr (by decide) rfl (pa_c (wv 0) (pa_c (wv 1) pa_nil))))))))))), ?_⟩
  conv => whnf
  refine lowI (k := 0) e hG (by decide) ?_
  conv => whnf
  refine whileN (fun m σ HY => ∃ (k : Nat) (xs' : List V) (gs' : List Tg), m = gs.length - k ∧ k ≤ 900 ∧ σ = [some (.ref l), some (.int ((k : Nat) : Int)), some (.int ((low gs' k : Nat) : Int))] ∧ HY = upd H l (.lst xs') ∧ Gs K H p xs' gs' ∧ gs'.Perm gs ∧ Si gs' k) ⟨_, 0, xs, gs, rfl, by decide, rfl, (upd_self e).symm, hG, List.Perm.refl _, hR⟩ ?_
  rintro m σ HY ⟨k, xs', gs', rfl, hk, rfl, rfl, hG', hP, hR'⟩
  have hgl' := hG'.1
  have hpl := hP.length_eq
  have hor := low_or gs' k
  conv => whnf
  refine seqLenL (SqL.of upd_same) ?_
  conv => whnf
  refine ltII ?_
  conv => whnf
  by_cases hm : low gs' k < gs'.length
  · refine ifDt (by omega) ?_
    obtain ⟨x, hx, ax, px⟩ := hG'.get hm
    obtain ⟨y, hy, ay, py⟩ := hG'.get (i := k) (by omega)
    conv => whnf
    refine seqAtL (SqL.of upd_same) (atI_nat hx) ?_
    conv => whnf
    refine seqAtL (SqL.of upd_same) (atI_nat hy) ?_
    conv => whnf
    refine lt_at (ax.updL e) (ay.updL e) (px.trans py.symm) ?_
    conv => whnf
    cases hb : (ga gs' (low gs' k)).lt (ga gs' k) with
    | false =>
      refine ifB_f rfl ?_
      exact q xs' gs' hP (hR'.done fun _ => hb) hG'
    | true =>
      refine ifB_t rfl ?_
      have hG2 : Gs K H p ((xs'.set k x).set (low gs' k) y) (sw gs' k (low gs' k)) := (hG'.set ax px k).set ay py _
      refine ⟨fun σ HY => ∃ (xs'' : List V) (gs'' : List Tg), σ = [some (.ref l), some (.int ((low gs' k : Nat) : Int)), some (.int ((low gs'' (low gs' k) : Nat) : Int))] ∧ HY = upd H l (.lst xs'') ∧ Gs K H p xs'' gs'' ∧ gs''.Perm gs ∧ Si gs'' (low gs' k), fun σ' H' ⟨xs'', gs'', z⟩ => ⟨gs.length - low gs' k, by omega, low gs' k, xs'', gs'', rfl, by omega, z⟩, ?_⟩
      conv => whnf
      refine swapI upd_same rfl rfl hy hx ?_
      rw [upd_upd]
      conv => whnf
      refine lowI upd_same (hG2.updL e) (by omega) ?_
      exact ⟨_, _, rfl, rfl, hG2, (sw_perm (by omega) hm).trans hP, hR'.step hm hb⟩
  · refine ifDf (by omega) ?_
    conv => whnf
    refine ifB_f rfl ?_
    exact q xs' gs' hP (hR'.done fun z => absurd z hm) hG'
seal spSink
structure ClH (K : PySem.W.Frag) (C : Addr) : Prop where
  i : InsK K C
  n : NoAttr K C "things"
abbrev hpO (C dx l : Addr) : HO := .ins C dx [(Str.ofString "things", .ref l)]
/-- a heap: its own object, its list, what lies there -/
def HpAt (K : PySem.W.Frag) (C : Addr) (H : Hp) (a l : Addr) (p : Bool) (gs : List Tg) : Prop := ∃ dx xs, H a = some (hpO C dx l) ∧ H l = some (.lst xs) ∧ Gs K H p xs gs
def spHInit (K : PySem.W.Frag) : Sp := fun vs H Q _ => ∃ a C dx, vs = [.ref a] ∧ H a = some (.ins C dx []) ∧ ClH K C ∧ ∀ l H', Same H H' → H l = none → H' l = some (.lst []) → Q .non (upd H' a (hpO C dx l))
theorem hInitI {H : Hp} {a C dx : Addr} {Q : VK} {E : XK} (h1 : H a = some (.ins C dx [])) (h2 : ClH K C) (q : ∀ l H', Same H H' → H l = none → H' l = some (.lst []) → Q .non (upd H' a (hpO C dx l))) : spHInit K [.ref a] H Q E := ⟨a, C, dx, rfl, h1, h2, q⟩
theorem ok_hInit (F : Fun K "__init__" "Heap.__init__" sHeapInit f fd) : FnOk P w K mg base CX0 1 f fd ["self"] (spHInit K) := by
  refine F.ok scHeapInit (fun vs H Q E h => ?_) (fun cdv A outer s H vs Q E hr h => ?_)
  · obtain ⟨a, C, dx, rfl, _⟩ := h
    rfl
  obtain ⟨a, C, dx, rfl, ea, cl, q⟩ := h
  refine ⟨_, (pss_one (ws_fld (K := K) rfl (wv 0) (we_lst pa_nil))), ?_⟩
  conv => whnf
  refine lstI (szN (by simp)) fun l H1 s1 n1 e1 => ?_
  conv => whnf
  exact putAtI (s1 _ _ ea) cl.i.cl cl.n (by decide) (q l H1 s1 n1 e1)
seal spHInit
unseal newAt in
theorem newHI {C : Addr} {E : XK} {H : Hp} {Q : VK} (c : ClH K C) (g : ∀ a dx l H', Same H H' → H a = none → H l = none → H' a = some (hpO C dx l) → H' l = some (.lst []) → Q (.ref a) H') : newAt C (spHInit K) E [] H Q := by
  show ∀ a dx, H a = none → H dx = none → dx ≠ a → spHInit K (.ref a :: ([] ++ [])) (upd (upd H dx (.own a)) a (.ins C dx [])) (fun v H2 => v = .non ∧ Q (.ref a) H2) E
  intro a dx h1 h2 h3
  have s0 : Same H (upd (upd H dx (.own a)) a (.ins C dx [])) := fun b u z => same_made h1 h2 b u z
  refine hInitI upd_same c fun l H' s' n' e' => ⟨rfl, ?_⟩
  have al : l ≠ a := fun z => by rw [z, upd_same] at n'; cases n'
  refine g a dx l _ (fun b u z => ?_) h1 (Same.free s0 n') upd_same (by rw [upd_ne al]; exact e')
  rw [upd_ne (fun e => by rw [e, h1] at z; cases z)]
  exact s' _ _ (s0 _ _ z)
def spPut (K : PySem.W.Frag) : Sp := fun vs H Q _ => ∃ C a x l p gs g, vs = [.ref a, x] ∧ ClH K C ∧ HpAt K C H a l p gs ∧ HpOk gs ∧ gs.length < 900 ∧ TgAt K H x g ∧ g.pl = p ∧ ∀ xs' gs', gs'.Perm (gs ++ [g]) → HpOk gs' → Gs K H p xs' gs' → Q .non (upd H l (.lst xs'))
theorem putI {C : Addr} {H : Hp} {a : Addr} {x : V} {l : Addr} {p : Bool} {gs : List Tg} {g : Tg} {Q : VK} {E : XK} (h0 : ClH K C) (h1 : HpAt K C H a l p gs) (h2 : HpOk gs) (h3 : gs.length < 900) (h4 : TgAt K H x g) (h5 : g.pl = p) (q : ∀ xs' gs', gs'.Perm (gs ++ [g]) → HpOk gs' → Gs K H p xs' gs' → Q .non (upd H l (.lst xs'))) : spPut K [.ref a, x] H Q E := ⟨C, a, x, l, p, gs, g, rfl, h0, h1, h2, h3, h4, h5, q⟩
theorem ok_put (F : Fun K "put" "Heap.put" sHeapPut f fd) (c_rise : Cal P w K mg base 2 "rise" ["things"] (spRise K)) : FnOk P w K mg base CX0 3 f fd ["self", "thing"] (spPut K) := by
  refine F.ok scHeapPut (fun vs H Q E h => ?_) (fun cdv A outer s H vs Q E hr h => ?_)
  · obtain ⟨C, a, x, l, p, gs, g, rfl, _⟩ := h
    rfl
  obtain ⟨C, a, x, l, p, gs, g, rfl, cl, ⟨dx, xs, ea, el, hG⟩, hO, hl, hx, hp, q⟩ := h
  have hgl := hG.1
  refine ⟨_, (pss_cons (ps_expr (we_bm (K := K) rfl PySem.F.plainAttrs_list PySem.F.slot_list_append PySem.F.type_list_append w_append (we_fld (K := K) rfl (wv 0)) (pa_c (wv 1) pa_nil))) (pss_one (ps_expr (pe_fnP c_rise hr (by decide) rfl (pa_c (we_fld (K := K) rfl (wv 0)) pa_nil))))), ?_⟩
  conv => whnf
  refine fldAtI ea cl.i.cl cl.n rfl ?_
  conv => whnf
  refine ⟨.inl ⟨rfl, _, SqL.of el⟩, ?_⟩
  conv => whnf
  refine appLI el (szL (by omega)) ?_
  have al : a ≠ l := ne_of ea el (fun z => by cases z)
  conv => whnf
  refine fldAtI (by rw [upd_ne al]; exact ea) cl.i.cl cl.n rfl ?_
  conv => whnf
  have hG1 : Gs K H p (xs ++ [x]) (gs ++ [g]) := hG.app hx hp
  refine riseI upd_same (hG1.updL el) (by simp) (by simp; omega) (by simpa using Ri.start hO g) fun xs' gs' h1 h2 h3 => ?_
  rw [upd_upd]
  refine q xs' gs' h1 h2 ?_
  have := h3.updL (l := l) (o := .lst xs) upd_same
  rw [upd_upd, upd_self el] at this
  exact this
seal spPut
def spTake (K : PySem.W.Frag) (kE : Addr) : Sp := fun vs H Q E => ∃ C a l p gs, vs = [.ref a] ∧ ClH K C ∧ HpAt K C H a l p gs ∧ HpOk gs ∧ gs.length < 900 ∧ (gs = [] → E (.ref kE) none H) ∧ (0 < gs.length → ∀ x xs' gs', (ga gs 0 :: gs').Perm gs → HpOk gs' → Gs K H p xs' gs' → TgAt K H x (ga gs 0) → Q x (upd H l (.lst xs')))
theorem takeI {kE C : Addr} {H : Hp} {a l : Addr} {p : Bool} {gs : List Tg} {Q : VK} {E : XK} (h0 : ClH K C) (h1 : HpAt K C H a l p gs) (h2 : HpOk gs) (h3 : gs.length < 900) (q0 : gs = [] → E (.ref kE) none H) (q : 0 < gs.length → ∀ x xs' gs', (ga gs 0 :: gs').Perm gs → HpOk gs' → Gs K H p xs' gs' → TgAt K H x (ga gs 0) → Q x (upd H l (.lst xs'))) : spTake K kE [.ref a] H Q E := ⟨C, a, l, p, gs, rfl, h0, h1, h2, h3, q0, q⟩
theorem ok_take {kEmpty : Addr} (F : Fun K "take" "Heap.take" sHeapTake f fd) (m_len : mg "len" = none) (g_Empty : mg "Empty" = some (.ref kEmpty)) (i_Empty : PySem.W.excIn K kEmpty [.type "ValueError", .type "Exception", .type "BaseException", .type "object"] "ValueError.__new__" = true) (c_swap : Cal P w K mg base 1 "swap" ["things", "one", "other"] spSwap) (c_sink : Cal P w K mg base 2 "sink" ["things"] (spSink K)) : FnOk P w K mg base (CXE P w) 3 f fd ["self"] (spTake K kEmpty) := by
  refine F.okX scHeapTake (fun vs H Q E h => ?_) (fun cdv A outer s H vs Q E hr h => ?_)
  · obtain ⟨C, a, l, p, gs, rfl, _⟩ := h
    rfl
  obtain ⟨C, a, l, p, gs, rfl, cl, ⟨dx, xs, ea, el, hG⟩, hO, hl, q0, q⟩ := h
  have hgl := hG.1
  refine ⟨_, (pss_cons (ws_if (wt_cmp (w_eqA (K := K) rfl hr) (pe_callBP (w_len (K := K) rfl) rfl m_len PySem.boot_len (pa_c (we_fld (K := K) rfl (wv 0)) pa_nil)) pe_int (nomark _)) (pss_one (ps_raise fl_body rfl i_Empty PySem.F.excBase_ValueError rfl g_Empty (pa_c pe_str pa_nil))) pss_nil) (pss_cons (ps_expr (pe_fnP c_swap hr (by decide) rfl (pa_c (we_fld (K := K) rfl (wv 0)) (pa_c pe_int (pa_c (pe_op w_sub (pe_callBP (w_len (K := K) rfl) rfl m_len PySem.boot_len (pa_c (we_fld (K := K) rfl (wv 0)) pa_nil)) pe_int) pa_nil))))) (pss_cons (ps_set (i := 1) scHeapTake.nd rfl (Or.inl rfl) (we_bm0 (K := K) rfl PySem.F.plainAttrs_list PySem.F.slot_list_pop PySem.F.type_list_pop w_pop (we_fld (K := K) rfl (wv 0)))) (pss_cons (ps_expr (pe_fnP c_sink hr (by decide) rfl (pa_c (we_fld (K := K) rfl (wv 0)) pa_nil))) (pss_one (ps_ret (wv 1))))))), ?_⟩
  conv => whnf
  refine fldAtI ea cl.i.cl cl.n rfl ?_
  conv => whnf
  refine seqLenL (SqL.of el) ?_
  conv => whnf
  by_cases hz : gs = []
  · have hx0 : xs.length = 0 := by rw [hgl, hz]; rfl
    refine ifDt (by omega) ?_
    conv => whnf
    exact ⟨szN (by decide), q0 hz⟩
  have hn : 0 < gs.length := List.length_pos_iff.mpr hz
  refine ifDf (by omega) ?_
  conv => whnf
  refine fldAtI ea cl.i.cl cl.n rfl ?_
  conv => whnf
  refine fldAtI ea cl.i.cl cl.n rfl ?_
  conv => whnf
  refine seqLenL (SqL.of el) ?_
  conv => whnf
  obtain ⟨x, hx, ax, px⟩ := hG.get hn
  obtain ⟨y, hy, ay, py⟩ := hG.get (i := gs.length - 1) (by omega)
  refine swapI (i := 0) (j := gs.length - 1) el rfl (by show (xs.length : Int) - 1 = _; omega) hx hy ?_
  have al : a ≠ l := ne_of ea el (fun z => by cases z)
  have hG1 : Gs K H p ((xs.set 0 y).set (gs.length - 1) x) (sw gs 0 (gs.length - 1)) := (hG.set ay py 0).set ax px _
  conv => whnf
  refine fldAtI (by rw [upd_ne al]; exact ea) cl.i.cl cl.n rfl ?_
  conv => whnf
  refine ⟨.inl ⟨rfl, _, SqL.of upd_same⟩, ?_⟩
  conv => whnf
  refine popLI upd_same (y := x) ?_ ?_
  · rw [List.length_set, List.length_set, hgl, List.getElem?_set_self (by rw [List.length_set]; omega)]
  rw [upd_upd]
  conv => whnf
  refine fldAtI (by rw [upd_ne al]; exact ea) cl.i.cl cl.n rfl ?_
  conv => whnf
  refine sinkI upd_same (hG1.dropLast.updL el) (by rw [List.length_dropLast, sw_len]; omega) (Si.start hO hn) fun xs' gs' h1 h2 h3 => ?_
  rw [upd_upd]
  have h3' := h3.updL (l := l) (o := .lst xs) upd_same
  rw [upd_upd, upd_self el] at h3'
  conv => whnf
  exact q hn x xs' gs' ((h1.cons _).trans (take_perm hn)) h2 h3' ax
seal spTake
def spSize (K : PySem.W.Frag) : Sp := fun vs H Q _ => ∃ C a l p gs, vs = [.ref a] ∧ ClH K C ∧ HpAt K C H a l p gs ∧ Q (.int (gs.length : Nat)) H
theorem sizeI {C : Addr} {H : Hp} {a l : Addr} {p : Bool} {gs : List Tg} {Q : VK} {E : XK} (h0 : ClH K C) (h1 : HpAt K C H a l p gs) (q : Q (.int (gs.length : Nat)) H) : spSize K [.ref a] H Q E := ⟨C, a, l, p, gs, rfl, h0, h1, q⟩
theorem ok_size (F : Fun K "size" "Heap.size" sHeapSize f fd) (m_len : mg "len" = none) : FnOk P w K mg base CX0 1 f fd ["self"] (spSize K) := by
  refine F.ok scHeapSize (fun vs H Q E h => ?_) (fun cdv A outer s H vs Q E hr h => ?_)
  · obtain ⟨C, a, l, p, gs, rfl, _⟩ := h
    rfl
  obtain ⟨C, a, l, p, gs, rfl, cl, ⟨dx, xs, ea, el, hG⟩, q⟩ := h
  refine ⟨_, (pss_one (ps_ret (pe_callBP (w_len (K := K) rfl) rfl m_len PySem.boot_len (pa_c (we_fld (K := K) rfl (wv 0)) pa_nil)))), ?_⟩
  conv => whnf
  refine fldAtI ea cl.i.cl cl.n rfl ?_
  conv => whnf
  refine seqLenL (SqL.of el) ?_
  rw [hG.1]
  exact q
seal spSize
end
end My

set_option Elab.async false
set_option linter.all false
set_option maxRecDepth 100000
set_option maxHeartbeats 1000000
namespace My
open PySem L2 PyProof.Rows
seal PE PT PS PSs PA PI PG PGs PTs PW PO OpR UnR CallR IxR MtR SlR PSet
seal ifB seqLen seqAt signAt catL seqIn intOf isiRef seqTru slSeq joinL appL allL listL tupL itSeq setL unpT forW cmpW wWhile CMul CDiv CPow strIn findV tCut eqRef revL
seal catA isiAny isiExc L2.fldAt L2.putAt L2.methAt newAt clrL rvsL extL popL excO mkT mkL catB anyL seqInD tMk0
seal ltV minTL remL
seal spSwap spLow spRise spSink spHInit spPut spTake spSize
section
variable {P : Program} {w : World} {K : PySem.W.Frag} {mg : Str → Option Value} {base : Heap} {f : Addr} {fd : FuncData}
/-! ### draws -/
def spD (K : PySem.W.Frag) : Sp := fun vs H Q _ => ∃ a ns k many, vs = [.ref a, .int k, .int many] ∧ Scr K H a ns ∧ 0 ≤ k ∧ k < 100000 ∧ 0 < many ∧ ∀ i : Int, 0 ≤ i → i < many → Q (.int i) H
theorem dI {H : Hp} {a : Addr} {ns : List Int} {k many : Int} {Q : VK} {E : XK} (h : Scr K H a ns) (h0 : 0 ≤ k) (h1 : k < 100000) (h2 : 0 < many) (g : ∀ i : Int, 0 ≤ i → i < many → Q (.int i) H) : spD K [.ref a, .int k, .int many] H Q E := ⟨a, ns, k, many, rfl, h, h0, h1, h2, g⟩
theorem ok_d (F : Fun K "_law_draw" "_law_draw" sLDraw f fd) (m_len : mg "len" = none) : FnOk P w K mg base CX0 1 f fd ["_law_script", "_law_k", "_law_many"] (spD K) := by
  refine F.ok scLDraw (fun vs H Q E h => ?_) (fun cdv A outer s H vs Q E hr h => ?_)
  · obtain ⟨a, ns, k, many, rfl, _⟩ := h
    rfl
  obtain ⟨a, ns, k, many, rfl, ⟨hS, h63⟩, hk0, hk1, hm, q⟩ := h
  have b31 : CMul 31 k := cmul_l (by decide) (by decide)
  have b31k : CMul (31 * k) k := cmul_r (by omega) (by omega)
  refine ⟨_, (pss_cons (ps_set (i := 3) scLDraw.nd rfl (Or.inl rfl) pe_int) (pss_cut (ws_if (wt_cmp w_gt (pe_callBP (w_len (K := K) rfl) rfl m_len PySem.boot_len (pa_c (wv 0) pa_nil)) pe_int (nomark _)) (pss_one (ps_set (i := 3) scLDraw.nd rfl (Or.inl rfl) (pe_op w_mod (pe_ix (w_ix (K := K) rfl) (wv 0) (pe_op w_mod (wv 1) (pe_callBP (w_len (K := K) rfl) rfl m_len PySem.boot_len (pa_c (wv 0) pa_nil))) (fun _ _ => rfl)) pe_int))) pss_nil) (pss_one (ps_ret (pe_op w_mod (pe_op w_mod (pe_op w_mul (pe_op w_mod (pe_op w_mul (pe_op (w_addY (K := K) rfl) (wv 3) pe_int) (pe_op (w_addY (K := K) rfl) (pe_op w_mul (pe_op w_mul pe_int (wv 1)) (wv 1)) pe_int)) pe_int) pe_int) pe_int) (wv 2)))))), ?_⟩
  refine cutI (fun σ H' => H' = H ∧ ∃ i : Int, σ = [some (.ref a), some (.int k), some (.int many), some (.int i)] ∧ 0 ≤ i ∧ i < 2147483629) ?_ ?_
  · conv => whnf
    refine seqLenL hS ?_
    conv => whnf
    rw [List.length_map]
    refine ifD (fun hl => ?_) (fun hl => ?_)
    · have hl' : 0 < ns.length := by omega
      have h1 := Int.emod_nonneg k (show (ns.length : Int) ≠ 0 by omega)
      have h2 := Int.emod_lt_of_pos k (show (0 : Int) < ns.length by omega)
      conv => whnf
      refine seqLenL hS ?_
      conv => whnf
      rw [List.length_map]
      refine ⟨hl, seqAtL hS (atI_ints h1 h2) ⟨by decide, rfl, _, rfl, Int.emod_nonneg _ (by decide), Int.emod_lt_of_pos _ (by decide)⟩⟩
    · exact ⟨rfl, _, rfl, by decide, by decide⟩
  · rintro σ' H' ⟨rfl, i, rfl, h0, h1⟩
    refine ⟨b31, b31k, cmul_l (by omega) (by omega), by decide, cmul_r (by decide) (by decide), by decide, hm, ?_⟩
    exact q _ (Int.emod_nonneg _ (by omega)) (Int.emod_lt_of_pos _ hm)
seal spD
def spWhole : Sp := fun vs H Q _ => ∃ i : Int, vs = [.int i] ∧ Q (.bl true) H
theorem wholeI {H : Hp} {i : Int} {Q : VK} {E : XK} (g : Q (.bl true) H) : spWhole [.int i] H Q E := ⟨i, rfl, g⟩
theorem ok_whole (F : Fun K "_law_whole" "_law_whole" sLWhole f fd) (m_isinstance : mg "isinstance" = none) (m_int : mg "int" = none) (m_bool : mg "bool" = none) : FnOk P w K mg base CX0 1 f fd ["_law_thing_here"] spWhole := by
  refine F.ok scLWhole (fun vs H Q E h => ?_) (fun cdv A outer s H vs Q E hr h => ?_)
  · obtain ⟨i, rfl, _⟩ := h
    rfl
  obtain ⟨i, rfl, q⟩ := h
  refine ⟨_, (pss_one (ps_ret (we_and (pe_callBP (w_isiX (K := K) rfl) rfl m_isinstance boot_isinstance (pa_c (wv 0) (pa_c (pe_bltn (v := .ty "int") rfl m_int boot_int rfl) pa_nil))) (pe_one (we_not (K := K) rfl (pe_callBP (w_isiX (K := K) rfl) rfl m_isinstance boot_isinstance (pa_c (wv 0) (pa_c (pe_bltn (v := .ty "bool") rfl m_bool boot_bool rfl) pa_nil)))))))), ?_⟩
  refine ⟨rfl, ifB_t rfl ⟨rfl, q⟩⟩
seal spWhole
def spNum (K : PySem.W.Frag) : Sp := fun vs H Q _ => ∃ a ns k, vs = [.ref a, .int k] ∧ Scr K H a ns ∧ 0 ≤ k ∧ k < 90000 ∧ ∀ (i : Int) H', Same H H' → Q (.int i) H'
theorem numI {H : Hp} {a : Addr} {ns : List Int} {k : Int} {Q : VK} {E : XK} (h : Scr K H a ns) (h0 : 0 ≤ k) (h1 : k < 90000) (g : ∀ (i : Int) H', Same H H' → Q (.int i) H') : spNum K [.ref a, .int k] H Q E := ⟨a, ns, k, rfl, h, h0, h1, g⟩
theorem ok_num (F : Fun K "_law_number" "_law_number" sLNumber f fd) (c_law_draw : Cal P w K mg base 1 "_law_draw" ["_law_script", "_law_k", "_law_many"] (spD K)) : FnOk P w K mg base CX0 2 f fd ["_law_script", "_law_k"] (spNum K) := by
  refine F.ok scLNumber (fun vs H Q E h => ?_) (fun cdv A outer s H vs Q E hr h => ?_)
  · obtain ⟨a, ns, k, rfl, _⟩ := h
    rfl
  obtain ⟨a, ns, k, rfl, hS, k0, k1, q⟩ := h
  refine ⟨_, (pss_cons (ws_if (wt_cmp (w_eqA (K := K) rfl hr) (pe_fnP c_law_draw hr (by decide) rfl (pa_c (wv 0) (pa_c (wv 1) (pa_c pe_int pa_nil)))) pe_int (nomark _)) (pss_one (ps_ret (pe_op w_sub (pe_fnP c_law_draw hr (by decide) rfl (pa_c (wv 0) (pa_c (pe_op (w_addY (K := K) rfl) (wv 1) pe_int) (pa_c pe_int pa_nil)))) pe_int))) pss_nil) (pss_cons (ps_set (i := 2) scLNumber.nd rfl (Or.inl rfl) (pe_op (w_addY (K := K) rfl) (pe_op w_mul (pe_fnP c_law_draw hr (by decide) rfl (pa_c (wv 0) (pa_c (pe_op (w_addY (K := K) rfl) (wv 1) pe_int) (pa_c (pe_op w_pow pe_int pe_int) pa_nil)))) (pe_op w_pow pe_int pe_int)) (pe_fnP c_law_draw hr (by decide) rfl (pa_c (wv 0) (pa_c (pe_op (w_addY (K := K) rfl) (wv 1) pe_int) (pa_c (pe_op w_pow pe_int pe_int) pa_nil)))))) (pss_one (ps_ret (pe_ix (w_ix (K := K) rfl) (we_lst (pa_c (wv 2) (pa_c (pe_op w_sub pe_int (wv 2)) pa_nil))) (pe_fnP c_law_draw hr (by decide) rfl (pa_c (wv 0) (pa_c (pe_op (w_addY (K := K) rfl) (wv 1) pe_int) (pa_c pe_int pa_nil)))) (fun _ _ => rfl)))))), ?_⟩
  conv => whnf
  refine dI hS k0 (by omega) (by decide) fun i i0 i1 => ?_
  conv => whnf
  refine ifD (fun z => ?_) (fun z => ?_)
  · conv => whnf
    exact dI hS (by omega) (by omega) (by decide) fun i i0 i1 => q _ _ (.refl _)
  conv => whnf
  refine ⟨cpowI (by decide) (by decide) (by decide), ?_⟩
  conv => whnf
  refine dI hS (by omega) (by omega) (by decide) fun x x0 x1 => ?_
  conv => whnf
  refine ⟨cpowI (by decide) (by decide) (by decide), ?_⟩
  conv => whnf
  refine ⟨cmul_l (by have : x < 1000000000 := x1; omega) (by have : x < 1000000000 := x1; omega), ?_⟩
  conv => whnf
  refine ⟨cpowI (by decide) (by decide) (by decide), ?_⟩
  conv => whnf
  refine dI hS (by omega) (by omega) (by decide) fun y y0 y1 => ?_
  conv => whnf
  refine lstI (szN (by simp)) fun l1 H1 s1 n1 e1 => ?_
  conv => whnf
  refine dI ⟨s1.seq hS.1, hS.2⟩ (by omega) (by omega) (by decide) fun j j0 j1 => ?_
  conv => whnf
  rcases (show j = 0 ∨ j = 1 by omega) with rfl | rfl
  · exact seqAtL (SqL.of e1) rfl (q _ _ s1)
  · exact seqAtL (SqL.of e1) rfl (q _ _ s1)
seal spNum
def spThing (K : PySem.W.Frag) : Sp := fun vs H Q _ => ∃ a ns k p, vs = [.ref a, .int k, .bl p] ∧ Scr K H a ns ∧ 0 ≤ k ∧ k < 80000 ∧ ∀ x g H', Same H H' → TgAt K H' x g → g.pl = p → Q x H'
theorem thingI {H : Hp} {a : Addr} {ns : List Int} {k : Int} {p : Bool} {Q : VK} {E : XK} (h : Scr K H a ns) (h0 : 0 ≤ k) (h1 : k < 80000) (g : ∀ x g H', Same H H' → TgAt K H' x g → g.pl = p → Q x H') : spThing K [.ref a, .int k, .bl p] H Q E := ⟨a, ns, k, p, rfl, h, h0, h1, g⟩
theorem ok_thing (F : Fun K "_law_thing" "_law_thing" sLThing f fd) (m_tuple : mg "tuple" = none) (m_range : mg "range" = none) (c_law_draw : Cal P w K mg base 1 "_law_draw" ["_law_script", "_law_k", "_law_many"] (spD K)) (c_law_number : Cal P w K mg base 2 "_law_number" ["_law_script", "_law_k"] (spNum K)) : FnOk P w K mg base CX0 3 f fd ["_law_script", "_law_k", "_law_plain"] (spThing K) := by
  refine F.ok scLThing (fun vs H Q E h => ?_) (fun cdv A outer s H vs Q E hr h => ?_)
  · obtain ⟨a, ns, k, p, rfl, _⟩ := h
    rfl
  obtain ⟨a, ns, k, p, rfl, hS, k0, k1, q⟩ := h
  refine ⟨_, (pss_cons (ws_if (wt_tr (K := K) rfl (wv 2)) (pss_one (ps_ret (pe_fnP c_law_number hr (by decide) rfl (pa_c (wv 0) (pa_c (wv 1) pa_nil))))) pss_nil) (pss_one (ps_ret (pe_callTyP (w_tuple (K := K) rfl) rfl m_tuple boot_tuple (pa_c (we_comp rfl (comp_scope (N' := ["_law_j", "_law_script", "_law_k"]) (pk := [none, some 0, some 1]) (by kernel_rfl)) (wi_range1 rfl m_range (pa_c (pe_op (w_addY (K := K) rfl) pe_int (pe_fnP c_law_draw hr (by decide) rfl (pa_c (wv 0) (pa_c (pe_op (w_addY (K := K) rfl) (wv 1) pe_int) (pa_c pe_int pa_nil))))) pa_nil)) (fun C s H ex => (pg_name (i := 0) (show List.Nodup (["_law_j", "_law_script", "_law_k"] : List Str) by decide +kernel) rfl (Or.inl rfl))) (fun C s H ex => pts_nil) (fun C s H ex => (pe_fnP c_law_number hr (by decide) rfl (pa_c (wv 1) (pa_c (pe_op (w_addY (K := K) rfl) (wv 2) (pe_op w_mul pe_int (wv 0))) pa_nil))))) pa_nil))))), ?_⟩
  cases p
  · conv => whnf
    refine ifB_f rfl ?_
    conv => whnf
    refine dI hS (by omega) (by omega) (by decide) fun i i0 i1 => ?_
    conv => whnf
    refine ⟨⟨by omega, by omega⟩, ?_⟩
    refine comp_range (fun i ys H' => Same H H' ∧ ∃ is : List Int, ys = is.map V.int ∧ is.length = i) (szN (by omega)) (fun i ys H' p => by obtain ⟨_, is, rfl, rfl⟩ := p; simp) ⟨.refl _, [], rfl, rfl⟩ (fun i ys H' hi p => ?_) (fun ys H' p l nl => ?_)
    · obtain ⟨sm, is, rfl, rfl⟩ := p
      conv => whnf
      refine ⟨sup_set, ?_⟩
      conv => whnf
      refine ⟨cmul_l (by decide) (by decide), ?_⟩
      conv => whnf
      have hi' : (is.length : Int) < 3 := by omega
      refine numI ⟨sm.seq hS.1, hS.2⟩ (by omega) (by omega) fun n H2 s2 => ⟨sm.trans s2, is ++ [n], by rw [List.map_append]; rfl, by simp⟩
    obtain ⟨sm, is, rfl, hl⟩ := p
    have s2 : Same H' (upd H' l (.lst (is.map V.int))) := .upd nl
    conv => whnf
    refine tupLL' (SqL.of upd_same) fun pt H3 s3 n3 e3 => ?_
    exact q (.ref pt) (.t is) H3 ((sm.trans s2).trans s3) ⟨pt, rfl, SqT.of e3⟩ rfl
  · conv => whnf
    refine ifB_t rfl ?_
    conv => whnf
    exact numI hS k0 (by omega) fun n H2 s2 => q (.int n) (.n n) H2 s2 rfl rfl
seal spThing
/-! ### which refusals -/
def spOthers (c : Addr) (a : Addr) : Sp := fun vs H Q _ => vs = [.ref a] ∧ H a = some (excO a (.ref c) none) ∧ ∀ p H', Same H H' → H p = none → H' p = some (.lst [.int 7, .bl true]) → Q (.ref p) H'
theorem othersI {c a : Addr} {H : Hp} {Q : VK} {E : XK} (h : H a = some (excO a (.ref c) none)) (g : ∀ p H', Same H H' → H p = none → H' p = some (.lst [.int 7, .bl true]) → Q (.ref p) H') : spOthers c a [.ref a] H Q E := ⟨rfl, h, g⟩
theorem ok_others {kNoHouse kNoRule kNoDeal kNoDeed kNoRide kNoIll kNoLine kEmpty kNoFloor kNoLift kTwice kTooMany : Addr} (F : Fun K "_law_others" "_law_others" sLOthers f fd) (kx : ExcK K kEmpty) (m_isinstance : mg "isinstance" = none) (m_range : mg "range" = none) (m_ValueError : mg "ValueError" = none)
    (g_NoHouse : mg "NoHouse" = some (.ref kNoHouse)) (g_NoRule : mg "NoRule" = some (.ref kNoRule)) (g_NoDeal : mg "NoDeal" = some (.ref kNoDeal)) (g_NoDeed : mg "NoDeed" = some (.ref kNoDeed)) (g_NoRide : mg "NoRide" = some (.ref kNoRide)) (g_NoIll : mg "NoIll" = some (.ref kNoIll)) (g_NoLine : mg "NoLine" = some (.ref kNoLine)) (g_Empty : mg "Empty" = some (.ref kEmpty)) (g_NoFloor : mg "NoFloor" = some (.ref kNoFloor)) (g_NoLift : mg "NoLift" = some (.ref kNoLift)) (g_Twice : mg "Twice" = some (.ref kTwice)) (g_TooMany : mg "TooMany" = some (.ref kTooMany))
    (t_NoHouse : PySem.W.kitOne K (.ref kEmpty) (.ref kNoHouse) = some false) (t_NoRule : PySem.W.kitOne K (.ref kEmpty) (.ref kNoRule) = some false) (t_NoDeal : PySem.W.kitOne K (.ref kEmpty) (.ref kNoDeal) = some false) (t_NoDeed : PySem.W.kitOne K (.ref kEmpty) (.ref kNoDeed) = some false) (t_NoRide : PySem.W.kitOne K (.ref kEmpty) (.ref kNoRide) = some false) (t_NoIll : PySem.W.kitOne K (.ref kEmpty) (.ref kNoIll) = some false) (t_NoLine : PySem.W.kitOne K (.ref kEmpty) (.ref kNoLine) = some false) (t_Empty : PySem.W.kitOne K (.ref kEmpty) (.ref kEmpty) = some true) (t_NoFloor : PySem.W.kitOne K (.ref kEmpty) (.ref kNoFloor) = some false) (t_NoLift : PySem.W.kitOne K (.ref kEmpty) (.ref kNoLift) = some false) (t_Twice : PySem.W.kitOne K (.ref kEmpty) (.ref kTwice) = some false) (t_TooMany : PySem.W.kitOne K (.ref kEmpty) (.ref kTooMany) = some false) (t_VE : PySem.W.kitOne K (.ref kEmpty) (.type "ValueError") = some true) :
    FnOkH P w K mg base 1 f fd ["_law_e"] (spOthers kEmpty) := by
  refine fn_ofH F scLOthers (fun a vs H Q E h => ?_) (fun cdv a A outer s H vs Q E hr h => ?_)
  · obtain ⟨rfl, _⟩ := h
    rfl
  obtain ⟨rfl, hX, q⟩ := h
  refine ⟨_, (pss_cons (ps_set (i := 1) scLOthers.nd rfl (Or.inr rfl) (we_lst (pa_c (pe_callBP (w_isiX (K := K) rfl) rfl m_isinstance boot_isinstance (pa_c (wv 0) (pa_c (pe_gref rfl g_NoHouse) pa_nil))) (pa_c (pe_callBP (w_isiX (K := K) rfl) rfl m_isinstance boot_isinstance (pa_c (wv 0) (pa_c (pe_gref rfl g_NoRule) pa_nil))) (pa_c (pe_callBP (w_isiX (K := K) rfl) rfl m_isinstance boot_isinstance (pa_c (wv 0) (pa_c (pe_gref rfl g_NoDeal) pa_nil))) (pa_c (pe_callBP (w_isiX (K := K) rfl) rfl m_isinstance boot_isinstance (pa_c (wv 0) (pa_c (pe_gref rfl g_NoDeed) pa_nil))) pa_nil)))))) (pss_cons (ps_set (i := 1) scLOthers.nd rfl (Or.inr rfl) (pe_op (w_addY (K := K) rfl) (wv 1) (we_lst (pa_c (pe_callBP (w_isiX (K := K) rfl) rfl m_isinstance boot_isinstance (pa_c (wv 0) (pa_c (pe_gref rfl g_NoRide) pa_nil))) (pa_c (pe_callBP (w_isiX (K := K) rfl) rfl m_isinstance boot_isinstance (pa_c (wv 0) (pa_c (pe_gref rfl g_NoIll) pa_nil))) (pa_c (pe_callBP (w_isiX (K := K) rfl) rfl m_isinstance boot_isinstance (pa_c (wv 0) (pa_c (pe_gref rfl g_NoLine) pa_nil))) (pa_c (pe_callBP (w_isiX (K := K) rfl) rfl m_isinstance boot_isinstance (pa_c (wv 0) (pa_c (pe_gref rfl g_Empty) pa_nil))) pa_nil))))))) (pss_cons (ps_set (i := 1) scLOthers.nd rfl (Or.inr rfl) (pe_op (w_addY (K := K) rfl) (wv 1) (we_lst (pa_c (pe_callBP (w_isiX (K := K) rfl) rfl m_isinstance boot_isinstance (pa_c (wv 0) (pa_c (pe_gref rfl g_NoFloor) pa_nil))) (pa_c (pe_callBP (w_isiX (K := K) rfl) rfl m_isinstance boot_isinstance (pa_c (wv 0) (pa_c (pe_gref rfl g_NoLift) pa_nil))) (pa_c (pe_callBP (w_isiX (K := K) rfl) rfl m_isinstance boot_isinstance (pa_c (wv 0) (pa_c (pe_gref rfl g_Twice) pa_nil))) (pa_c (pe_callBP (w_isiX (K := K) rfl) rfl m_isinstance boot_isinstance (pa_c (wv 0) (pa_c (pe_gref rfl g_TooMany) pa_nil))) pa_nil))))))) (pss_one (ps_ret (pe_op (w_addY (K := K) rfl) (we_compA (comp_scope (N' := ["_law_k", "_law_some"]) (pk := [none, some 1]) (by kernel_rfl)) (wi_rangeH1 hr.hd rfl m_range (pa_c pe_int pa_nil)) (fun C s H ex => (pg_name (i := 0) (show List.Nodup (["_law_k", "_law_some"] : List Str) by decide +kernel) rfl (Or.inl rfl))) (fun C s H ex => (pts_one (wt_tr (K := K) rfl (pe_ix (w_ix (K := K) rfl) (wv 1) (wv 0) (fun _ _ => rfl))))) (fun C s H ex => (wv 0))) (we_lst (pa_c (pe_callBP (w_isiX (K := K) rfl) rfl m_isinstance boot_isinstance (pa_c (wv 0) (pa_c (pe_bltn (v := .ty "ValueError") rfl m_ValueError PyProof.Rows.Boot.«ValueError» rfl) pa_nil))) pa_nil)))))))), ?_⟩
  conv => whnf
  refine isiAnyX hX kx rfl t_NoHouse ?_
  conv => whnf
  refine isiAnyX hX kx rfl t_NoRule ?_
  conv => whnf
  refine isiAnyX hX kx rfl t_NoDeal ?_
  conv => whnf
  refine isiAnyX hX kx rfl t_NoDeed ?_
  conv => whnf
  refine lstI (szN (by simp)) fun l1 H1 s1 n1 e1 => ?_
  have x1 := s1.get hX
  conv => whnf
  refine isiAnyX x1 kx rfl t_NoRide ?_
  conv => whnf
  refine isiAnyX x1 kx rfl t_NoIll ?_
  conv => whnf
  refine isiAnyX x1 kx rfl t_NoLine ?_
  conv => whnf
  refine isiAnyX x1 kx rfl t_Empty ?_
  conv => whnf
  refine lstI (szN (by simp)) fun l2 H2 s2 n2 e2 => ?_
  conv => whnf
  refine catBL (s2.get e1) e2 (szN (by simp)) fun l3 H3 s3 n3 e3 => ?_
  have x3 := s3.get (s2.get x1)
  conv => whnf
  refine isiAnyX x3 kx rfl t_NoFloor ?_
  conv => whnf
  refine isiAnyX x3 kx rfl t_NoLift ?_
  conv => whnf
  refine isiAnyX x3 kx rfl t_Twice ?_
  conv => whnf
  refine isiAnyX x3 kx rfl t_TooMany ?_
  conv => whnf
  refine lstI (szN (by simp)) fun l4 H4 s4 n4 e4 => ?_
  conv => whnf
  refine catBL (s4.get e3) e4 (szN (by simp)) fun l5 H5 s5 n5 e5 => ?_
  have x5 := s5.get (s4.get x3)
  have sm5 := (((s1.trans s2).trans s3).trans s4).trans s5
  conv => whnf
  refine ⟨⟨by decide, by decide⟩, comp_rangeH (fun i ys H' => H' = H5 ∧ ys = if i < 8 then [] else [.int 7]) (szN (by decide)) (fun i ys H' p => ?_) ⟨rfl, rfl⟩ (fun ys H' p => ⟨.ref kEmpty, none, p.1 ▸ x5⟩) (fun i ys H' hi p => ?_) (fun ys H' p l6 n6 => ?_)⟩
  · rw [p.2]
    split
    · exact Nat.zero_le _
    · show 1 ≤ i; omega
  · obtain ⟨rfl, rfl⟩ := p
    refine ⟨sup_set, ?_⟩
    have hi' : i = 0 ∨ i = 1 ∨ i = 2 ∨ i = 3 ∨ i = 4 ∨ i = 5 ∨ i = 6 ∨ i = 7 ∨ i = 8 ∨ i = 9 ∨ i = 10 ∨ i = 11 := by have : i < 12 := hi; omega
    conv => whnf
    rcases hi' with rfl | rfl | rfl | rfl | rfl | rfl | rfl | rfl | rfl | rfl | rfl | rfl
    all_goals first
      | exact seqAtL (SqL.of e5) (v := .bl false) rfl ⟨rfl, rfl⟩
      | exact seqAtL (SqL.of e5) (v := .bl true) rfl ⟨rfl, rfl⟩
  · obtain ⟨rfl, rfl⟩ := p
    have e6 : upd H' l6 (.lst [V.int 7]) l6 = some (.lst [V.int 7]) := upd_same
    have s6 : Same H' (upd H' l6 (.lst [V.int 7])) := .upd n6
    conv => whnf
    refine isiAnyX (s6.get x5) kx rfl t_VE ?_
    conv => whnf
    refine lstI (szN (by simp)) fun l7 H7 s7 n7 e7 => ?_
    conv => whnf
    refine catBL (s7.get e6) e7 (szN (by simp)) fun l8 H8 s8 n8 e8 => ?_
    exact q l8 H8 (((sm5.trans s6).trans s7).trans s8) (sm5.free (s6.free (s7.free n8))) e8
seal spOthers
/-! ### what is kept beside -/
theorem deps_tg : ∀ ks : List Tg, deps (ks.map Tg.d) ≤ 1
  | [] => Nat.zero_le _
  | k :: ks => by rw [List.map_cons, deps]; exact Nat.max_le.mpr ⟨Tg.dep_le k, deps_tg ks⟩
theorem gs_den {H : Hp} {k : Addr} {ys : List V} {p : Bool} {ks : List Tg} (h : H k = some (.lst ys)) (hG : Gs K H p ys ks) : Den K H (.ref k) (.lst (ks.map Tg.d)) := by
  refine .lst (SqL.of h) (by rw [List.length_map]; exact hG.1) fun i x d hx hd => ?_
  rw [List.getElem?_map] at hd
  cases e : ks[i]? with
  | none => rw [e] at hd; cases hd
  | some g =>
    rw [e] at hd
    cases hd
    exact (hG.2 i x g hx e).1.den
def One (K : PySem.W.Frag) (C : Addr) (H : Hp) (p : Bool) (a l k : Addr) (gs ks : List Tg) : Prop := HpAt K C H a l p gs ∧ (∃ ys, H k = some (.lst ys) ∧ Gs K H p ys ks) ∧ l ≠ k
/-- all stays but two lists -/
def Bt (l k : Addr) (H H' : Hp) : Prop := ∀ b o, b ≠ l → b ≠ k → H b = some o → H' b = some o
theorem Same.bt {H H' : Hp} {l k : Addr} (s : Same H H') : Bt l k H H' := fun b o _ _ e => s b o e
theorem Bt.trans {H H1 H2 : Hp} {l k : Addr} (a : Bt l k H H1) (b : Bt l k H1 H2) : Bt l k H H2 := fun x o h1 h2 e => b x o h1 h2 (a x o h1 h2 e)
theorem Bt.upd1 {H : Hp} {l k : Addr} {o : HO} : Bt l k H (upd H l o) := fun b u h1 _ e => by rw [upd_ne h1]; exact e
theorem Bt.upd2 {H : Hp} {l k : Addr} {o : HO} : Bt l k H (upd H k o) := fun b u _ h2 e => by rw [upd_ne h2]; exact e
theorem Bt.tup {H H' : Hp} {l k : Addr} {xs ys : List V} (b : Bt l k H H') (h1 : H l = some (.lst xs)) (h2 : H k = some (.lst ys)) {a : Addr} {zs : List V} (h : SqT K H a zs) : SqT K H' a zs := by
  rcases h with (h | ⟨u, h⟩) | h
  · exact .inl (.inl (b _ _ (ne_of h h1 (fun z => by cases z)) (ne_of h h2 (fun z => by cases z)) h))
  · exact .inl (.inr ⟨u, b _ _ (ne_of h h1 (fun z => by cases z)) (ne_of h h2 (fun z => by cases z)) h⟩)
  · exact .inr h
theorem Bt.gs {H H' : Hp} {l k : Addr} {xs ys : List V} (b : Bt l k H H') (h1 : H l = some (.lst xs)) (h2 : H k = some (.lst ys)) {p : Bool} {zs : List V} {gs : List Tg} (h : Gs K H p zs gs) : Gs K H' p zs gs := by
  refine ⟨h.1, fun i x g hx hg => ⟨?_, (h.2 i x g hx hg).2⟩⟩
  have := (h.2 i x g hx hg).1
  cases g with
  | n i => exact this
  | t ns =>
    obtain ⟨a, e, q⟩ := this
    exact ⟨a, e, b.tup h1 h2 q⟩
theorem One.lists {C : Addr} {H : Hp} {p : Bool} {a l k : Addr} {gs ks : List Tg} (h : One K C H p a l k gs ks) : ∃ xs ys, H l = some (.lst xs) ∧ H k = some (.lst ys) := by
  obtain ⟨⟨_, xs, _, h1, _⟩, ⟨ys, h2, _⟩, _⟩ := h
  exact ⟨xs, ys, h1, h2⟩
/-- the other one stays -/
theorem One.bt {C : Addr} {H H' : Hp} {p : Bool} {a l k : Addr} {gs ks : List Tg} (h : One K C H p a l k gs ks) {l' k' : Addr} {xs ys : List V} (b : Bt l' k' H H') (h1 : H l' = some (.lst xs)) (h2 : H k' = some (.lst ys)) (d1 : l ≠ l') (d2 : l ≠ k') (d3 : k ≠ l') (d4 : k ≠ k') : One K C H' p a l k gs ks := by
  obtain ⟨⟨dx, zs, ea, el, hG⟩, ⟨ws, ek, hW⟩, d⟩ := h
  exact ⟨⟨dx, zs, b _ _ (ne_of ea h1 (fun z => by cases z)) (ne_of ea h2 (fun z => by cases z)) ea, b _ _ d1 d2 el, b.gs h1 h2 hG⟩, ⟨ws, b _ _ d3 d4 ek, b.gs h1 h2 hW⟩, d⟩
theorem One.same {C : Addr} {H H' : Hp} {p : Bool} {a l k : Addr} {gs ks : List Tg} (h : One K C H p a l k gs ks) (s : Same H H') : One K C H' p a l k gs ks := by
  obtain ⟨⟨dx, zs, ea, el, hG⟩, ⟨ws, ek, hW⟩, d⟩ := h
  exact ⟨⟨dx, zs, s _ _ ea, s _ _ el, hG.same s⟩, ⟨ws, s _ _ ek, hW.same s⟩, d⟩
def spTaken (K : PySem.W.Frag) (C : Addr) : Sp := fun vs H Q _ => ∃ a l k p gs ks, vs = [.ref a, .ref k] ∧ ClH K C ∧ One K C H p a l k gs ks ∧ HpOk gs ∧ gs.Perm ks ∧ gs.length < 900 ∧ ∀ H' gs' ks', Bt l k H H' → One K C H' p a l k gs' ks' → HpOk gs' → gs'.Perm ks' → gs'.length = gs.length - 1 → Q (.bl true) H'
theorem takenI {C : Addr} {H : Hp} {a l k : Addr} {p : Bool} {gs ks : List Tg} {Q : VK} {E : XK} (h0 : ClH K C) (h1 : One K C H p a l k gs ks) (h2 : HpOk gs) (h3 : gs.Perm ks) (h4 : gs.length < 900) (q : ∀ H' gs' ks', Bt l k H H' → One K C H' p a l k gs' ks' → HpOk gs' → gs'.Perm ks' → gs'.length = gs.length - 1 → Q (.bl true) H') : spTaken K C [.ref a, .ref k] H Q E := ⟨a, l, k, p, gs, ks, rfl, h0, h1, h2, h3, h4, q⟩
theorem ok_taken {kEmpty kCE kHeap : Addr} (F : Fun K "_law_taken" "_law_taken" sLTaken f fd) (m_min : mg "min" = none) (m_isinstance : mg "isinstance" = none) (m_tuple : mg "tuple" = none) (g_CourtError : mg "CourtError" = some (.ref kCE)) (e_CourtError : Exc0 K kCE) (cat : Catches K (.ref kEmpty) kCE true) (M_Heap_take : MCal P w K mg base (CXE P w) 3 "take" kHeap (spTake K kEmpty)) (h_law_others : CalH P w K mg base 1 "_law_others" ["_law_e"] (spOthers kEmpty)) (c_law_whole : Cal P w K mg base 1 "_law_whole" ["_law_thing_here"] spWhole) : FnOk P w K mg base CX0 4 f fd ["_law_heap", "_law_kept"] (spTaken K kHeap) := by
  refine F.ok scLTaken (fun vs H Q E h => ?_) (fun cdv A outer s H vs Q E hr h => ?_)
  · obtain ⟨a, l, k, p, gs, ks, rfl, _⟩ := h
    rfl
  obtain ⟨a, l, k, p, gs, ks, rfl, cl, hO, hH, hP, hn, q⟩ := h
  refine ⟨_, (pss_cons (ps_set (i := 2) scLTaken.nd rfl (Or.inl rfl) (we_lst pa_nil)) (pss_cons (ps_set (i := 3) scLTaken.nd rfl (Or.inl rfl) pe_non) (pss_cut (ps_tryAs (j := 4) rfl rfl e_CourtError rfl g_CourtError scLTaken.nd rfl rfl (psx_set (i := 3) scLTaken.nd rfl (Or.inl rfl) (px_meth0 (n := 3) rfl hr (by decide) (wv 0))) (fun a => (pss_one (ps_set (i := 2) scLTaken.nd rfl (Or.inl rfl) (pe_fnH h_law_others (hr.mark a) (by decide) rfl (pa_c (wv 4) pa_nil)))))) (pss_cons (ws_if (wt_cmp (w_eqA (K := K) rfl hr) (wv 1) (we_lst pa_nil) (nomark _)) (pss_one (ps_ret (pe_cmpR (w_eqA (K := K) rfl hr) (wv 2) (we_lst (pa_c pe_int (pa_c pe_bl pa_nil))) (nomark _)))) pss_nil) (pss_cons (ws_if (PW.pt (ww_or (wt_cmp (w_neA (K := K) rfl hr) (wv 2) (we_lst pa_nil) (nomark _)) (ww_or (wt_cmp (w_neA (K := K) rfl hr) (wv 3) (pe_callBP (w_minT (K := K) rfl rfl hr) rfl m_min boot_min (pa_c (wv 1) pa_nil)) (nomark _)) (pw_or1 (wt_cmp (w_neA (K := K) rfl hr) (pe_callBP (w_isiTu (K := K) rfl) rfl m_isinstance boot_isinstance (pa_c (wv 3) (pa_c (pe_bltn (v := .ty "tuple") rfl m_tuple boot_tuple rfl) pa_nil))) (pe_callBP (w_isiTu (K := K) rfl) rfl m_isinstance boot_isinstance (pa_c (pe_ix (w_ix (K := K) rfl) (wv 1) pe_int (fun _ _ => rfl)) (pa_c (pe_bltn (v := .ty "tuple") rfl m_tuple boot_tuple rfl) pa_nil))) (nomark _)))))) (pss_one (ps_ret pe_bl)) pss_nil) (pss_cons (ws_if (PW.pt (ww_and (pt_not (wt_tr (K := K) rfl (pe_callBP (w_isiTu (K := K) rfl) rfl m_isinstance boot_isinstance (pa_c (wv 3) (pa_c (pe_bltn (v := .ty "tuple") rfl m_tuple boot_tuple rfl) pa_nil))))) (pw_and1 (pt_not (wt_tr (K := K) rfl (pe_fnP c_law_whole hr (by decide) rfl (pa_c (wv 3) pa_nil))))))) (pss_one (ps_ret pe_bl)) pss_nil) (pss_cons (ps_expr (we_bm (K := K) rfl PySem.F.plainAttrs_list PySem.F.slot_list_remove PySem.F.type_list_remove (w_remove (K := K) rfl hr) (wv 1) (pa_c (wv 3) pa_nil))) (pss_one (ps_ret pe_bl))))))))), ?_⟩
  conv => whnf
  refine lstI (szN (by simp)) fun o0 H0 s0 n0 e0 => ?_
  have hO0 := hO.same s0
  obtain ⟨⟨dx, xs, ea, el, hG⟩, ⟨ys, ek, hY⟩, dlk⟩ := id hO0
  have dol : o0 ≠ l := fun z => by obtain ⟨xs, ys, z1, z2⟩ := hO.lists; rw [z] at n0; rw [n0] at z1; cases z1
  have dok : o0 ≠ k := fun z => by obtain ⟨xs, ys, z1, z2⟩ := hO.lists; rw [z] at n0; rw [n0] at z2; cases z2
  conv => whnf
  refine cutI (fun σ H' => (gs = [] ∧ Same H0 H' ∧ ∃ o, σ = [some (.ref a), some (.ref k), some (.ref o), some .non, none] ∧ H' o = some (.lst [.int 7, .bl true])) ∨
    (0 < gs.length ∧ ∃ x xs' gs', σ = [some (.ref a), some (.ref k), some (.ref o0), some x, none] ∧ H' = upd H0 l (.lst xs') ∧ (ga gs 0 :: gs').Perm gs ∧ HpOk gs' ∧ Gs K H0 p xs' gs' ∧ TgAt K H0 x (ga gs 0))) ?_ ?_
  · refine ⟨fun cls dd H1 => cls = .ref kEmpty ∧ dd = none ∧ H1 = H0 ∧ gs = [], ?_, ?_⟩
    · conv => whnf
      refine methAtI ea rfl M_Heap_take ?_
      conv => whnf
      refine takeI cl ⟨dx, xs, ea, el, hG⟩ hH hn (fun z => ⟨rfl, rfl, rfl, z⟩) (fun z x xs' gs' h1 h2 h3 h4 => ?_)
      exact .inr ⟨z, x, xs', gs', rfl, rfl, h1, h2, h3, h4⟩
    · rintro cls dd H1 ⟨rfl, rfl, rfl, hz⟩
      refine ⟨cat, fun e ne => ?_⟩
      conv => whnf
      refine othersI upd_same fun o H' sm no eo => ?_
      exact .inl ⟨hz, (Same.upd ne).trans sm, o, rfl, eo⟩
  rintro σ' H' (⟨hz, sm, o, rfl, eo⟩ | ⟨hz, x, xs', gs', rfl, rfl, h1, h2, h3, h4⟩)
  · have hk0 : ks = [] := by rw [hz] at hP; exact List.nil_perm.mp hP |>.symm ▸ rfl
    conv => whnf
    refine lstI (szN (by simp)) fun l1 H1 s1 n1 e1 => ?_
    conv => whnf
    have d1 : Den K H1 (.ref k) (.lst []) := by
      have := gs_den (K := K) (s1 _ _ (sm _ _ ek)) ((hY.same sm).same s1)
      rw [hk0] at this
      exact this
    refine eqRefT d1 (denL (SqL.of e1) .nil) (by decide) ?_
    conv => whnf
    refine ifB_t rfl ?_
    conv => whnf
    refine lstI (szN (by simp)) fun l2 H2 s2 n2 e2 => ?_
    conv => whnf
    refine eqRefT (denL (SqL.of (s2 _ _ (s1 _ _ eo))) (.cons (.int _) (.cons (.bl _) .nil))) (denL (SqL.of e2) (.cons (.int _) (.cons (.bl _) .nil))) (by decide) ?_
    have s02 := ((s0.trans sm).trans s1).trans s2
    exact q H2 gs ks (Same.bt s02) (hO.same s02) hH hP (by rw [hz]; rfl)
  have hkl := hP.length_eq
  have ek1 : upd H0 l (.lst xs') k = some (.lst ys) := by rw [upd_ne (Ne.symm dlk)]; exact ek
  have hY1 : Gs K (upd H0 l (.lst xs')) p ys ks := hY.updL el
  have hyl := hY1.1
  have e01 : upd H0 l (.lst xs') o0 = some (.lst []) := by rw [upd_ne dol]; exact e0
  have h4' : TgAt K (upd H0 l (.lst xs')) x (ga gs 0) := h4.updL el
  have h3' : Gs K (upd H0 l (.lst xs')) p xs' gs' := h3.updL el
  have hg0 : ga gs 0 ∈ ks := hP.subset (List.mem_of_getElem? (ga_some hz))
  have hp0 : (ga gs 0).pl = p := (hG.get hz).choose_spec.2.2
  have ea1 : upd H0 l (.lst xs') a = some (hpO kHeap dx l) := by rw [upd_ne (ne_of ea el (fun z => by cases z))]; exact ea
  have b1 : Bt l k H (upd H0 l (.lst xs')) := (Same.bt s0).trans .upd1
  have el1 : upd H0 l (.lst xs') l = some (.lst xs') := upd_same
  generalize upd H0 l (.lst xs') = H1 at ek1 hY1 e01 h4' h3' ea1 b1 el1
  conv => whnf
  refine lstI (szN (by simp)) fun l2 H2 s2 n2 e2 => ?_
  have hne : eqDs (ks.map Tg.d) [] = false := by
    cases ks with
    | nil => cases hg0
    | cons k ks => rfl
  conv => whnf
  refine eqRefI (gs_den (s2 _ _ ek1) (hY1.same s2)) (denL (SqL.of e2) .nil) (by have := deps_tg ks; show dep (.lst _) ≤ 60; rw [dep]; omega) ?_
  rw [eqD, hne]
  conv => whnf
  refine ifB_f rfl ?_
  conv => whnf
  refine lstI (szN (by simp)) fun l3 H3 s3 n3 e3 => ?_
  have s13 := s2.trans s3
  conv => whnf
  refine eqRefT (denL (SqL.of (s13 _ _ e01)) .nil) (denL (SqL.of e3) .nil) (by decide) ?_
  conv => whnf
  refine ifB_f rfl ?_
  have ek3 := s13 _ _ ek1
  have hY3 := hY1.same s13
  have h43 := h4'.same s13
  obtain ⟨j, hj, hjm⟩ := first_at hg0
  obtain ⟨y0, hy0, ay0, py0⟩ := hY3.get (i := 0) (by omega)
  have last : remL K k x H3 (fun v H4 => Q (.bl true) H4) := by
    refine remLI ek3 hY3 h43 hj hjm ?_
    have b2 : Bt l k H (upd H3 k (.lst (ys.eraseIdx j))) := (b1.trans (Same.bt s13)).trans .upd2
    refine q _ gs' (ks.eraseIdx j) b2 ⟨⟨dx, xs', ?_, ?_, ?_⟩, ⟨ys.eraseIdx j, upd_same, (hY3.eraseIdx j).updL ek3⟩, dlk⟩ h2 (rem_perm (h1.trans hP) hj).symm ?_
    · rw [upd_ne (ne_of (s13 _ _ ea1) ek3 (fun z => by cases z))]; exact s13 _ _ ea1
    · rw [upd_ne dlk]; exact s13 _ _ el1
    · exact (h3'.same s13).updL ek3
    · have := h1.length_eq; simp at this; omega
  conv => whnf
  refine minTLI ek3 (by omega) hY3 fun i v g hv hg hm => ?_
  have hgg : g = ga gs 0 := min_is hH hP (List.mem_of_getElem? hg) hm hz
  have av := (hY3.2 i v g hv hg).1
  rw [hgg] at av
  cases hc : ga gs 0 with
  | n i =>
    rw [hc] at av h43 hp0
    cases av
    cases h43
    cases hp0
    cases hc2 : ga ks 0 with
    | t ns => rw [hc2] at py0; cases py0
    | n i2 =>
    rw [hc2] at ay0
    cases ay0
    conv => whnf
    refine ifB_f (by simp) ?_
    conv => whnf
    refine ⟨rfl, ?_⟩
    conv => whnf
    refine seqAtL (SqL.of ek3) (atI_nat (j := 0) hy0) ?_
    conv => whnf
    refine ⟨rfl, ?_⟩
    conv => whnf
    refine ifB_f (by decide) ?_
    conv => whnf
    refine ⟨rfl, ?_⟩
    conv => whnf
    refine ifB_t (by decide) ?_
    conv => whnf
    refine wholeI ?_
    conv => whnf
    refine ifB_f rfl ?_
    conv => whnf
    refine ⟨.inl ⟨rfl, _, SqL.of ek3⟩, ?_⟩
    exact last
  | t ns =>
    rw [hc] at av h43 hp0
    obtain ⟨ra, rfl, hra⟩ := av
    obtain ⟨rb, rfl, hrb⟩ := h43
    cases hp0
    cases hc2 : ga ks 0 with
    | n i2 => rw [hc2] at py0; cases py0
    | t ms =>
    rw [hc2] at ay0
    obtain ⟨rc, rfl, hrc⟩ := ay0
    conv => whnf
    refine eqRefT (d := Tg.d (.t ns)) (TgAt.den (g := .t ns) ⟨rb, rfl, hrb⟩) (TgAt.den (g := .t ns) ⟨ra, rfl, hra⟩) (Nat.le_trans (Tg.dep_le _) (by decide)) ?_
    conv => whnf
    refine ifB_f rfl ?_
    conv => whnf
    refine isiTuT hrb rfl rfl ?_
    conv => whnf
    refine seqAtL (SqL.of ek3) (atI_nat (j := 0) hy0) ?_
    conv => whnf
    refine isiTuT hrc rfl rfl ?_
    conv => whnf
    refine ifB_f rfl ?_
    conv => whnf
    refine isiTuT hrb rfl rfl ?_
    conv => whnf
    refine ifB_f rfl ?_
    conv => whnf
    refine ifB_f rfl ?_
    conv => whnf
    refine ⟨.inl ⟨rfl, _, SqL.of ek3⟩, ?_⟩
    exact last
seal spTaken
def spSzR (K : PySem.W.Frag) (C : Addr) : Sp := fun vs H Q _ => ∃ a l k p gs ks, vs = [.ref a, .ref k] ∧ ClH K C ∧ One K C H p a l k gs ks ∧ gs.length = ks.length ∧ Q (.bl true) H
theorem szRI {C : Addr} {H : Hp} {a l k : Addr} {p : Bool} {gs ks : List Tg} {Q : VK} {E : XK} (h0 : ClH K C) (h1 : One K C H p a l k gs ks) (h2 : gs.length = ks.length) (q : Q (.bl true) H) : spSzR K C [.ref a, .ref k] H Q E := ⟨a, l, k, p, gs, ks, rfl, h0, h1, h2, q⟩
theorem ok_szR {kHeap : Addr} (F : Fun K "_law_size_right" "_law_size_right" sLSizeRight f fd) (m_len : mg "len" = none) (M_Heap_size : MCal P w K mg base CX0 1 "size" kHeap (spSize K)) (c_law_whole : Cal P w K mg base 1 "_law_whole" ["_law_thing_here"] spWhole) : FnOk P w K mg base CX0 2 f fd ["_law_heap", "_law_kept"] (spSzR K kHeap) := by
  refine F.ok scLSizeRight (fun vs H Q E h => ?_) (fun cdv A outer s H vs Q E hr h => ?_)
  · obtain ⟨a, l, k, p, gs, ks, rfl, _⟩ := h
    rfl
  obtain ⟨a, l, k, p, gs, ks, rfl, cl, hO, hl, q⟩ := h
  obtain ⟨⟨dx, xs, ea, el, hG⟩, ⟨ys, ek, hY⟩, dlk⟩ := id hO
  refine ⟨_, (pss_cons (ps_set (i := 2) scLSizeRight.nd rfl (Or.inl rfl) (we_meth0 (n := 1) pass0 hr (by decide) (wv 0))) (pss_one (ps_ret (we_and (pe_fnP c_law_whole hr (by decide) rfl (pa_c (wv 2) pa_nil)) (pe_one (pe_cmpR (w_eqA (K := K) rfl hr) (wv 2) (pe_callBP (w_len (K := K) rfl) rfl m_len PySem.boot_len (pa_c (wv 1) pa_nil)) (nomark _))))))), ?_⟩
  conv => whnf
  refine methAtI ea rfl M_Heap_size ?_
  conv => whnf
  refine sizeI cl hO.1 ?_
  conv => whnf
  refine wholeI ?_
  conv => whnf
  refine ifB_t rfl ?_
  conv => whnf
  refine seqLenL (SqL.of ek) ?_
  conv => whnf
  have : decide ((gs.length : Int) = (ys.length : Int)) = true := decide_eq_true (by have := hY.1; omega)
  first
    | (rw [this]; exact q)
    | (rw [show ((gs.length : Int) == (ys.length : Int)) = true by simp; have := hY.1; omega]; exact q)
    | (simp only [hl, hY.1, decide_true, beq_self_eq_true]; exact q)
seal spSzR
end
end My

set_option Elab.async false
set_option linter.all false
set_option maxRecDepth 100000
set_option maxHeartbeats 1000000
namespace My
open PySem L2 PyProof.Rows
seal PE PT PS PSs PA PI PG PGs PTs PW PO OpR UnR CallR IxR MtR SlR PSet
seal ifB seqLen seqAt signAt catL seqIn intOf isiRef seqTru slSeq joinL appL allL listL tupL itSeq setL unpT forW cmpW wWhile CMul CDiv CPow strIn findV tCut eqRef revL
seal catA isiAny isiExc L2.fldAt L2.putAt L2.methAt newAt clrL rvsL extL popL excO mkT mkL catB anyL seqInD tMk0
seal ltV minTL remL
seal spSwap spLow spRise spSink spHInit spPut spTake spSize spD spWhole spNum spThing spOthers spTaken spSzR
section
variable {P : Program} {w : World} {K : PySem.W.Frag} {mg : Str → Option Value} {base : Heap} {f : Addr} {fd : FuncData}
/-! ### the two heaps, and what is kept beside each -/
structure Two (K : PySem.W.Frag) (C : Addr) (H : Hp) (p : Bool) (a : Addr) (ns : List Int) (hl kl : Addr) (A L M : Bool → Addr) (G S : Bool → List Tg) : Prop where
  one : ∀ b, One K C H p (A b) (L b) (M b) (G b) (S b)
  ok : ∀ b, HpOk (G b)
  pm : ∀ b, (G b).Perm (S b)
  eh : H hl = some (.lst [.ref (A false), .ref (A true)])
  ek : H kl = some (.lst [.ref (M false), .ref (M true)])
  sc : Scr K H a ns
  sa : (∀ H', Scr K H' a ns) ∨ ∀ b, a ≠ L b ∧ a ≠ M b
  d1 : L false ≠ L true
  d2 : M false ≠ M true
  d3 : ∀ b c, L b ≠ M c
  d4 : ∀ b, hl ≠ L b ∧ hl ≠ M b ∧ kl ≠ L b ∧ kl ≠ M b
theorem Two.same {C : Addr} {H H' : Hp} {p : Bool} {a : Addr} {ns : List Int} {hl kl : Addr} {A L M : Bool → Addr} {G S : Bool → List Tg} (t : Two K C H p a ns hl kl A L M G S) (s : Same H H') : Two K C H' p a ns hl kl A L M G S :=
  ⟨fun b => (t.one b).same s, t.ok, t.pm, s _ _ t.eh, s _ _ t.ek, ⟨s.seq t.sc.1, t.sc.2⟩, t.sa, t.d1, t.d2, t.d3, t.d4⟩
theorem scr_bt {H H' : Hp} {a l k : Addr} {ns : List Int} (h : Scr K H a ns) (b : Bt l k H H') (sa : (∀ H', Scr K H' a ns) ∨ (a ≠ l ∧ a ≠ k)) : Scr K H' a ns := by
  rcases sa with sa | ⟨h1, h2⟩
  · exact sa H'
  refine ⟨?_, h.2⟩
  rcases h.1 with (h | ⟨u, h⟩) | h
  · exact .inl (.inl (b _ _ h1 h2 h))
  · exact .inl (.inr ⟨u, b _ _ h1 h2 h⟩)
  · exact .inr h
def put2 (b : Bool) (g : List Tg) (G : Bool → List Tg) : Bool → List Tg := fun c => if c = b then g else G c
theorem put2_at {b : Bool} {g : List Tg} {G : Bool → List Tg} : put2 b g G b = g := by unfold put2; rw [if_pos rfl]
theorem put2_no {b : Bool} {g : List Tg} {G : Bool → List Tg} : put2 b g G (!b) = G (!b) := by unfold put2; rw [if_neg (by cases b <;> decide)]
theorem not_or (b c : Bool) : c = b ∨ c = !b := by cases b <;> cases c <;> simp
theorem Two.act {C : Addr} {H H' : Hp} {p : Bool} {a : Addr} {ns : List Int} {hl kl : Addr} {A L M : Bool → Addr} {G S : Bool → List Tg} (t : Two K C H p a ns hl kl A L M G S) {b : Bool} {g k : List Tg} (bt : Bt (L b) (M b) H H') (o : One K C H' p (A b) (L b) (M b) g k) (h1 : HpOk g) (h2 : g.Perm k) : Two K C H' p a ns hl kl A L M (put2 b g G) (put2 b k S) := by
  obtain ⟨xs, ys, e1, e2⟩ := (t.one b).lists
  have other : One K C H' p (A (!b)) (L (!b)) (M (!b)) (G (!b)) (S (!b)) := (t.one (!b)).bt bt e1 e2 (by cases b; exact t.d1.symm; exact t.d1) (t.d3 _ _) (Ne.symm (t.d3 _ _)) (by cases b; exact t.d2.symm; exact t.d2)
  have hd := t.d4 b
  refine ⟨fun c => ?_, fun c => ?_, fun c => ?_, bt _ _ hd.1 hd.2.1 t.eh, bt _ _ hd.2.2.1 hd.2.2.2 t.ek, scr_bt t.sc bt (t.sa.imp id fun z => z b), t.sa, t.d1, t.d2, t.d3, t.d4⟩
  · rcases not_or b c with rfl | rfl
    · rw [put2_at, put2_at]; exact o
    · rw [put2_no, put2_no]; exact other
  · rcases not_or b c with rfl | rfl
    · rw [put2_at]; exact h1
    · rw [put2_no]; exact t.ok _
  · rcases not_or b c with rfl | rfl
    · rw [put2_at, put2_at]; exact h2
    · rw [put2_no, put2_no]; exact t.pm _
theorem at2 {j : Int} (h0 : 0 ≤ j) (h1 : j < 2) : ∃ b : Bool, ∀ x : Bool → V, atI [x false, x true] j = some (x b) ∧ atI [x false, x true] (1 - j) = some (x (!b)) := by
  rcases (show j = 0 ∨ j = 1 by omega) with rfl | rfl
  · exact ⟨false, fun x => ⟨rfl, rfl⟩⟩
  · exact ⟨true, fun x => ⟨rfl, rfl⟩⟩
theorem put2_le {b : Bool} {g : List Tg} {G : Bool → List Tg} {n m : Nat} (h : ∀ c, (G c).length ≤ n) (hg : g.length ≤ m) (hm : n ≤ m) (c : Bool) : (put2 b g G c).length ≤ m := by
  rcases not_or b c with rfl | rfl
  · rw [put2_at]; exact hg
  · rw [put2_no]; exact Nat.le_trans (h _) hm
def spLaw (K : PySem.W.Frag) : Sp := fun vs H Q _ => ∃ (a : Addr) (ns : List Int), vs = [.ref a] ∧ Scr K H a ns ∧ ∀ H', Q (.bl true) H'
theorem ok_law {kHeap : Addr} (F : Fun K "law" "law" sLaw f fd) (m_range : mg "range" = none) (m_max : mg "max" = none) (m_min : mg "min" = none) (m_len : mg "len" = none) (cl : ClH K kHeap) (m_Heap : MkCal P w K mg base CX0 1 "Heap" kHeap (spHInit K)) (M_Heap_put : MCal P w K mg base CX0 3 "put" kHeap (spPut K)) (M_Heap_size : MCal P w K mg base CX0 1 "size" kHeap (spSize K)) (c_law_draw : Cal P w K mg base 1 "_law_draw" ["_law_script", "_law_k", "_law_many"] (spD K)) (c_law_thing : Cal P w K mg base 3 "_law_thing" ["_law_script", "_law_k", "_law_plain"] (spThing K)) (c_law_taken : Cal P w K mg base 4 "_law_taken" ["_law_heap", "_law_kept"] (spTaken K kHeap)) (c_law_size_right : Cal P w K mg base 2 "_law_size_right" ["_law_heap", "_law_kept"] (spSzR K kHeap)) : FnOk P w K mg base CX0 5 f fd ["_law_script"] (spLaw K) := by
  refine F.ok scLaw (fun vs H Q E h => ?_) (fun cdv A outer s H vs Q E hr h => ?_)
  · obtain ⟨a, ns, rfl, _⟩ := h
    rfl
  obtain ⟨a, ns, rfl, hS, q⟩ := h
  refine ⟨_, (pss_cons (ps_set (i := 1) scLaw.nd rfl (Or.inl rfl) (we_lst (pa_c (we_make0 m_Heap pass0 hr (by decide) rfl) (pa_c (we_make0 m_Heap pass0 hr (by decide) rfl) pa_nil)))) (pss_cons (ps_set (i := 2) scLaw.nd rfl (Or.inl rfl) (we_lst (pa_c (we_lst pa_nil) (pa_c (we_lst pa_nil) pa_nil)))) (pss_cons (ps_set (i := 3) scLaw.nd rfl (Or.inl rfl) (pe_cmpR (w_eqA (K := K) rfl hr) (pe_fnP c_law_draw hr (by decide) rfl (pa_c (wv 0) (pa_c pe_int (pa_c pe_int pa_nil)))) pe_int (nomark _))) (pss_cut (ws_if (wt_cmp (w_eqA (K := K) rfl hr) (pe_fnP c_law_draw hr (by decide) rfl (pa_c (wv 0) (pa_c pe_int (pa_c pe_int pa_nil)))) pe_int (nomark _)) (pss_one (ws_for PassesOwn.never rfl (wi_range1 rfl m_range (pa_c pe_int pa_nil)) (pg_name (i := 4) scLaw.nd rfl (Or.inl rfl)) (pss_cons (ps_expr (we_bm (K := K) rfl PySem.F.plainAttrs_list PySem.F.slot_list_append PySem.F.type_list_append w_append (pe_ix (w_ix (K := K) rfl) (wv 2) pe_int (fun _ _ => rfl)) (pa_c (pe_fnP c_law_thing hr (by decide) rfl (pa_c (wv 0) (pa_c (pe_op (w_addY (K := K) rfl) pe_int (pe_op w_mul pe_int (wv 4))) (pa_c (wv 3) pa_nil)))) pa_nil))) (pss_one (ps_expr (we_meth (n := 3) pass0 hr (by decide) (pe_ix (w_ix (K := K) rfl) (wv 1) pe_int (fun _ _ => rfl)) (pa_c (pe_ix (w_ix (K := K) rfl) (pe_ix (w_ix (K := K) rfl) (wv 2) pe_int (fun _ _ => rfl)) (wv 4) (fun _ _ => rfl)) pa_nil))))))) pss_nil) (pss_cons (ws_for PassesOwn.never rfl (wi_range1 rfl m_range (pa_c (pe_callBP (w_max rfl) rfl m_max boot_max (pa_c pe_int (pa_c (pe_callBP (w_min rfl) rfl m_min boot_min (pa_c (pe_callBP (w_len (K := K) rfl) rfl m_len PySem.boot_len (pa_c (wv 0) pa_nil)) (pa_c pe_int pa_nil))) pa_nil))) pa_nil)) (pg_name (i := 4) scLaw.nd rfl (Or.inl rfl)) (pss_cons (ps_set (i := 5) scLaw.nd rfl (Or.inl rfl) (pe_fnP c_law_draw hr (by decide) rfl (pa_c (wv 0) (pa_c (pe_op (w_addY (K := K) rfl) pe_int (wv 4)) (pa_c pe_int pa_nil))))) (pss_cut (ws_if (wt_cmp w_lt (pe_fnP c_law_draw hr (by decide) rfl (pa_c (wv 0) (pa_c (pe_op (w_addY (K := K) rfl) pe_int (wv 4)) (pa_c pe_int pa_nil)))) pe_int (nomark _)) (pss_cons (ps_set (i := 6) scLaw.nd rfl (Or.inl rfl) (pe_fnP c_law_thing hr (by decide) rfl (pa_c (wv 0) (pa_c (pe_op (w_addY (K := K) rfl) pe_int (pe_op w_mul pe_int (wv 4))) (pa_c (wv 3) pa_nil))))) (pss_cons (ps_expr (we_meth (n := 3) pass0 hr (by decide) (pe_ix (w_ix (K := K) rfl) (wv 1) (wv 5) (fun _ _ => rfl)) (pa_c (wv 6) pa_nil))) (pss_one (ps_expr (we_bm (K := K) rfl PySem.F.plainAttrs_list PySem.F.slot_list_append PySem.F.type_list_append w_append (pe_ix (w_ix (K := K) rfl) (wv 2) (wv 5) (fun _ _ => rfl)) (pa_c (wv 6) pa_nil)))))) (pss_one (ws_if (pt_not (wt_tr (K := K) rfl (pe_fnP c_law_taken hr (by decide) rfl (pa_c (pe_ix (w_ix (K := K) rfl) (wv 1) (wv 5) (fun _ _ => rfl)) (pa_c (pe_ix (w_ix (K := K) rfl) (wv 2) (wv 5) (fun _ _ => rfl)) pa_nil))))) (pss_one (ps_ret pe_bl)) pss_nil))) (pss_one (ws_if (PW.pt (ww_or (pt_not (wt_tr (K := K) rfl (pe_fnP c_law_size_right hr (by decide) rfl (pa_c (pe_ix (w_ix (K := K) rfl) (wv 1) (wv 5) (fun _ _ => rfl)) (pa_c (pe_ix (w_ix (K := K) rfl) (wv 2) (wv 5) (fun _ _ => rfl)) pa_nil))))) (pw_or1 (pt_not (wt_tr (K := K) rfl (pe_fnP c_law_size_right hr (by decide) rfl (pa_c (pe_ix (w_ix (K := K) rfl) (wv 1) (pe_op w_sub pe_int (wv 5)) (fun _ _ => rfl)) (pa_c (pe_ix (w_ix (K := K) rfl) (wv 2) (pe_op w_sub pe_int (wv 5)) (fun _ _ => rfl)) pa_nil)))))))) (pss_one (ps_ret pe_bl)) pss_nil))))) (pss_cons (ws_for PassesOwn.never rfl (wi_range1 rfl m_range (pa_c pe_int pa_nil)) (pg_name (i := 5) scLaw.nd rfl (Or.inl rfl)) (pss_cons (ws_for PassesOwn.never rfl (wi_range1 rfl m_range (pa_c (pe_op (w_addY (K := K) rfl) (pe_callBP (w_len (K := K) rfl) rfl m_len PySem.boot_len (pa_c (pe_ix (w_ix (K := K) rfl) (wv 2) (wv 5) (fun _ _ => rfl)) pa_nil)) pe_int) pa_nil)) (pg_name (i := 4) scLaw.nd rfl (Or.inl rfl)) (pss_one (ws_if (pt_not (wt_tr (K := K) rfl (pe_fnP c_law_taken hr (by decide) rfl (pa_c (pe_ix (w_ix (K := K) rfl) (wv 1) (wv 5) (fun _ _ => rfl)) (pa_c (pe_ix (w_ix (K := K) rfl) (wv 2) (wv 5) (fun _ _ => rfl)) pa_nil))))) (pss_one (ps_ret pe_bl)) pss_nil))) (pss_one (ws_if (wt_cmp (w_neA (K := K) rfl hr) (we_meth0 (n := 1) pass0 hr (by decide) (pe_ix (w_ix (K := K) rfl) (wv 1) (wv 5) (fun _ _ => rfl))) pe_int (nomark _)) (pss_one (ps_ret pe_bl)) pss_nil)))) (pss_one (ps_ret pe_bl)))))))), ?_⟩
  conv => whnf
  refine newHI cl fun a0 dx0 l0 H1 s1 na0 nl0 ea0 el0 => ?_
  conv => whnf
  refine newHI cl fun a1 dx1 l1 H2 s2 na1 nl1 ea1 el1 => ?_
  conv => whnf
  refine lstI (szN (by simp)) fun hl H3 s3 n3 e3 => ?_
  conv => whnf
  refine lstI (szN (by simp)) fun k0 H4 s4 n4 e4 => ?_
  conv => whnf
  refine lstI (szN (by simp)) fun k1 H5 s5 n5 e5 => ?_
  conv => whnf
  refine lstI (szN (by simp)) fun kl H6 s6 n6 e6 => ?_
  have s16 := ((s2.trans s3).trans s4).trans (s5.trans s6)
  have s26 := (s3.trans s4).trans (s5.trans s6)
  have s36 := s4.trans (s5.trans s6)
  have s46 := s5.trans s6
  have emp : ∀ (p : Bool), Gs K H6 p [] [] := fun p => ⟨rfl, fun i x g hx => by simp at hx⟩
  have dif : ∀ {HA : Hp} {x y : Addr} {o : HO}, HA x = some o → HA y = none → x ≠ y := fun h1 h2 z => by rw [z, h2] at h1; cases h1
  have sa6 : (∀ H', Scr K H' a ns) ∨ ∀ b, a ≠ (fun b => if b then l1 else l0 : Bool → Addr) b ∧ a ≠ (fun b => if b then k1 else k0 : Bool → Addr) b := by
    rcases hS.1 with h | h
    · right
      have hh : ∀ {HA : Hp} {y : Addr}, Same H HA → HA y = none → a ≠ y := fun {HA y} sm n z => by
        rcases h with h | ⟨u, h⟩
        · have := sm _ _ h; rw [z, n] at this; cases this
        · have := sm _ _ h; rw [z, n] at this; cases this
      intro b
      cases b
      · exact ⟨hh (.refl _) nl0, hh ((s1.trans s2).trans s3) n4⟩
      · exact ⟨hh s1 nl1, hh (((s1.trans s2).trans s3).trans s4) n5⟩
    · left
      exact fun H' => ⟨.inr h, hS.2⟩
  have T6 : ∀ p, Two K kHeap H6 p a ns hl kl (fun b => if b then a1 else a0) (fun b => if b then l1 else l0) (fun b => if b then k1 else k0) (fun _ => []) (fun _ => []) := fun p => by
    have sH6 := s1.trans s16
    refine ⟨fun b => ?_, fun b j h0 h => by simp at h, fun b => List.Perm.refl _, s36 _ _ e3, e6, ⟨sH6.seq hS.1, hS.2⟩, sa6, ?_, ?_, ?_, ?_⟩
    · cases b
      · exact ⟨⟨dx0, [], s16 _ _ ea0, s16 _ _ el0, emp p⟩, ⟨[], s46 _ _ e4, emp p⟩, dif (HA := H3) ((s2.trans s3) _ _ el0) n4⟩
      · exact ⟨⟨dx1, [], s26 _ _ ea1, s26 _ _ el1, emp p⟩, ⟨[], s6 _ _ e5, emp p⟩, dif (HA := H4) ((s3.trans s4) _ _ el1) n5⟩
    · exact dif (HA := H1) el0 nl1
    · exact dif (HA := H4) e4 n5
    · intro b c
      cases b <;> cases c
      · exact dif (HA := H3) ((s2.trans s3) _ _ el0) n4
      · exact dif (HA := H4) (((s2.trans s3).trans s4) _ _ el0) n5
      · exact dif (HA := H3) (s3 _ _ el1) n4
      · exact dif (HA := H4) ((s3.trans s4) _ _ el1) n5
    · intro b
      cases b
      · exact ⟨(dif (HA := H2) (s2 _ _ el0) n3).symm, dif (HA := H3) e3 n4, (dif (HA := H5) ((((s2.trans s3).trans s4).trans s5) _ _ el0) n6).symm, (dif (HA := H5) (s5 _ _ e4) n6).symm⟩
      · exact ⟨(dif (HA := H2) el1 n3).symm, dif (HA := H4) (s4 _ _ e3) n5, (dif (HA := H5) (((s3.trans s4).trans s5) _ _ el1) n6).symm, (dif (HA := H5) e5 n6).symm⟩
  have sc6 : Scr K H6 a ns := (T6 true).sc
  generalize (fun b : Bool => if b then a1 else a0) = A' at T6
  generalize (fun b : Bool => if b then l1 else l0) = L' at T6
  generalize (fun b : Bool => if b then k1 else k0) = M' at T6
  clear sa6 emp dif e3 e4 e5 ea0 ea1 el0 el1 s16 s26 s36 s46 e6
  conv => whnf
  refine dI sc6 (by decide) (by decide) (by decide) fun jp jp0 jp1 => ?_
  conv => whnf
  generalize hpp : (decide (jp = 0)) = p
  first | rw [hpp] | (rw [show (jp == 0) = p by rw [← hpp]; rfl]) | skip
  have T6 := T6 p
  refine cutI (fun σ HX => ∃ (G S : Bool → List Tg) (o4 : Option V), σ = [some (.ref a), some (.ref hl), some (.ref kl), some (.bl p), o4, none, none] ∧ Two K kHeap HX p a ns hl kl A' L' M' G S ∧ ∀ b, (G b).length ≤ 40) ?_ ?_
  · conv => whnf
    refine dI sc6 (by decide) (by decide) (by decide) fun j1 _ _ => ?_
    conv => whnf
    refine ifD (fun z => ?_) (fun z => ?_)
    · conv => whnf
      refine ⟨⟨by decide, by decide⟩, ?_⟩
      refine forW_range (fun j σ HX => ∃ (G S : Bool → List Tg) (o4 : Option V), σ = [some (.ref a), some (.ref hl), some (.ref kl), some (.bl p), o4, none, none] ∧ Two K kHeap HX p a ns hl kl A' L' M' G S ∧ (G false).length = j ∧ (G true).length = 0) ⟨_, _, _, rfl, T6, rfl, rfl⟩ (fun j σ HX hj pv => ?_) (fun σ HX pv => ?_)
      · obtain ⟨G, S, o4, rfl, T, hg0, hg1⟩ := pv
        have hj : j < 40 := hj
        conv => whnf
        refine seqAtL (SqL.of T.ek) (atI_nat (j := 0) rfl) ?_
        obtain ⟨⟨dx, xs, ea, el, hG⟩, ⟨ys, ek, hY⟩, dlk⟩ := T.one false
        have hgl := hG.1
        have hyl := hY.1
        have hpl := (T.pm false).length_eq
        conv => whnf
        refine ⟨.inl ⟨rfl, _, SqL.of ek⟩, ?_⟩
        conv => whnf
        refine ⟨cmul_l (by decide) (by decide), ?_⟩
        conv => whnf
        refine thingI T.sc (by omega) (by omega) fun x g H7 s7 hx hp => ?_
        have T7 := T.same s7
        conv => whnf
        refine appLI (s7 _ _ ek) (szL (by omega)) ?_
        have hd := T.d4 false
        have ek7 := s7 _ _ ek
        have b7 : ∀ {b o}, b ≠ M' false → H7 b = some o → upd H7 (M' false) (.lst (ys ++ [x])) b = some o := fun h e => by rw [upd_ne h]; exact e
        have nam : A' false ≠ M' false := ne_of ea ek (fun z => by cases z)
        conv => whnf
        refine seqAtL (SqL.of (b7 hd.2.1 T7.eh)) (atI_nat (j := 0) rfl) ?_
        conv => whnf
        refine methAtI (b7 nam (s7 _ _ ea)) rfl M_Heap_put ?_
        conv => whnf
        refine seqAtL (SqL.of (b7 hd.2.2.2 T7.ek)) (atI_nat (j := 0) rfl) ?_
        conv => whnf
        refine seqAtL (SqL.of upd_same) (v := x) (by first | (rw [show (0 + (j : Int)) = ((ys.length : Nat) : Int) by omega]; exact atI_nat (by simp)) | (show atI _ ((0 : Int) + (j : Int)) = _; rw [show (0 + (j : Int)) = ((ys.length : Nat) : Int) by omega]; exact atI_nat (by simp))) ?_
        conv => whnf
        have hG7 := (hG.same s7)
        refine putI cl ⟨dx, xs, b7 nam (s7 _ _ ea), b7 dlk (s7 _ _ el), hG7.updL ek7⟩ (T.ok false) (by omega) (hx.updL ek7) hp fun xs' gs' h1 h2 h3 => ?_
        have el8 : upd H7 (M' false) (.lst (ys ++ [x])) (L' false) = some (.lst xs) := b7 dlk (s7 _ _ el)
        refine ⟨put2 false gs' G, put2 false (S false ++ [g]) S, _, rfl, T7.act (b := false) (.trans .upd2 .upd1) ⟨⟨dx, xs', ?_, upd_same, h3.updL el8⟩, ⟨ys ++ [x], ?_, ?_⟩, dlk⟩ h2 (h1.trans ((T.pm false).append_right _)), ?_, ?_⟩
        · rw [upd_ne (ne_of ea el (fun z => by cases z))]; exact b7 nam (s7 _ _ ea)
        · rw [upd_ne dlk.symm]; exact upd_same
        · exact (((hY.same s7).app hx hp).updL ek7).updL el8
        · rw [put2_at, h1.length_eq]; simp; omega
        · rw [show true = !false from rfl, put2_no]; exact hg1
      · obtain ⟨G, S, o4, rfl, T, hg0, hg1⟩ := pv
        refine ⟨G, S, o4, rfl, T, fun b => ?_⟩
        cases b
        · have : (G false).length = 40 := hg0; omega
        · omega
    · exact ⟨_, _, _, rfl, T6, fun b => Nat.zero_le _⟩
  rintro σ7 H7 ⟨G7, S7, o47, rfl, T7, hb7⟩
  clear T6 sc6
  conv => whnf
  refine seqLenL T7.sc.1 ?_
  rw [List.length_map]
  conv => whnf
  have h63 := T7.sc.2
  generalize ns.length = c at h63 ⊢
  obtain ⟨m, em, hm⟩ : ∃ m : Nat, (if (if (63 : Int) < (c : Int) then (63 : Int) else (c : Int)) > 6 then (if (63 : Int) < (c : Int) then (63 : Int) else (c : Int)) else 6) = m ∧ m ≤ 63 := by
    rw [show (if (63 : Int) < (c : Int) then (63 : Int) else (c : Int)) = (c : Int) from if_neg (by omega)]
    by_cases z : (c : Int) > 6
    · exact ⟨c, by rw [if_pos z], h63⟩
    · exact ⟨6, by rw [if_neg z]; rfl, by decide⟩
  first | rw [em] | skip
  refine ⟨⟨by omega, by omega⟩, ?_⟩
  refine forW_range (fun j σ HX => ∃ (G S : Bool → List Tg) (o4 o5 o6 : Option V), σ = [some (.ref a), some (.ref hl), some (.ref kl), some (.bl p), o4, o5, o6] ∧ Two K kHeap HX p a ns hl kl A' L' M' G S ∧ ∀ b, (G b).length ≤ 40 + j) ⟨G7, S7, _, _, _, rfl, T7, fun b => hb7 b⟩ (fun j σ HX hj pv => ?_) (fun σ HX pv => ?_)
  · obtain ⟨G, S, o4, o5, o6, rfl, T, hb⟩ := pv
    have hj : j < 63 := by omega
    conv => whnf
    refine dI T.sc (by omega) (by omega) (by decide) fun i i0 i1 => ?_
    obtain ⟨b, hat⟩ := at2 i0 i1
    have hh := hat (fun b => .ref (A' b))
    have hk := hat (fun b => .ref (M' b))
    conv => whnf
    refine cutI (fun σ HY => ∃ (G S : Bool → List Tg) (o6 : Option V), σ = [some (.ref a), some (.ref hl), some (.ref kl), some (.bl p), some (.int (0 + (j : Int))), some (.int i), o6] ∧ Two K kHeap HY p a ns hl kl A' L' M' G S ∧ ∀ b, (G b).length ≤ 40 + (j + 1)) ?_ ?_
    · conv => whnf
      refine dI T.sc (by omega) (by omega) (by decide) fun i2 _ _ => ?_
      obtain ⟨⟨dx, xs, ea, el, hG⟩, ⟨ys, ek, hY⟩, dlk⟩ := T.one b
      have hgl := hG.1
      have hyl := hY.1
      have hpl := (T.pm b).length_eq
      have hbb := hb b
      conv => whnf
      refine ifD (fun z => ?_) (fun z => ?_)
      · conv => whnf
        refine ⟨cmul_l (by decide) (by decide), ?_⟩
        conv => whnf
        refine thingI T.sc (by omega) (by omega) fun x g H8 s8 hx hp => ?_
        have T8 := T.same s8
        have hG8 := hG.same s8
        conv => whnf
        refine seqAtL (SqL.of T8.eh) hh.1 ?_
        conv => whnf
        refine methAtI (s8 _ _ ea) rfl M_Heap_put ?_
        conv => whnf
        refine putI cl ⟨dx, xs, s8 _ _ ea, s8 _ _ el, hG8⟩ (T.ok b) (by omega) hx hp fun xs' gs' h1 h2 h3 => ?_
        have hd := T.d4 b
        have el8 := s8 _ _ el
        have ek8 : upd H8 (L' b) (.lst xs') (M' b) = some (.lst ys) := by rw [upd_ne dlk.symm]; exact s8 _ _ ek
        conv => whnf
        refine seqAtL (SqL.of (by rw [upd_ne hd.2.2.1]; exact T8.ek)) hk.1 ?_
        conv => whnf
        refine ⟨.inl ⟨rfl, _, SqL.of ek8⟩, ?_⟩
        conv => whnf
        refine appLI ek8 (szL (by omega)) ?_
        refine ⟨put2 b gs' G, put2 b (S b ++ [g]) S, _, rfl, T8.act (b := b) (.trans .upd1 .upd2) ⟨⟨dx, xs', ?_, ?_, (h3.updL el8).updL ek8⟩, ⟨ys ++ [x], upd_same, (((hY.same s8).app hx hp).updL el8).updL ek8⟩, dlk⟩ h2 (h1.trans ((T.pm b).append_right _)), put2_le (n := 40 + j) hb (by rw [h1.length_eq]; simp; omega) (by omega)⟩
        · rw [upd_ne (ne_of ea ek (fun z => by cases z)), upd_ne (ne_of ea el (fun z => by cases z))]; exact s8 _ _ ea
        · rw [upd_ne dlk]; exact upd_same
      · conv => whnf
        refine seqAtL (SqL.of T.eh) hh.1 ?_
        conv => whnf
        refine seqAtL (SqL.of T.ek) hk.1 ?_
        conv => whnf
        refine takenI cl (T.one b) (T.ok b) (T.pm b) (by omega) fun H8 gs' ks' bt o h1 h2 hl' => ?_
        conv => whnf
        refine ifB_f rfl ?_
        exact ⟨put2 b gs' G, put2 b ks' S, _, rfl, T.act bt o h1 h2, put2_le (n := 40 + j) hb (by omega) (by omega)⟩
    rintro σ8 H8 ⟨G8, S8, o68, rfl, T8, hb8⟩
    conv => whnf
    refine seqAtL (SqL.of T8.eh) hh.1 ?_
    conv => whnf
    refine seqAtL (SqL.of T8.ek) hk.1 ?_
    conv => whnf
    refine szRI cl (T8.one b) (T8.pm b).length_eq ?_
    conv => whnf
    refine ifB_f rfl ?_
    conv => whnf
    refine seqAtL (SqL.of T8.eh) hh.2 ?_
    conv => whnf
    refine seqAtL (SqL.of T8.ek) hk.2 ?_
    conv => whnf
    refine szRI cl (T8.one (!b)) (T8.pm (!b)).length_eq ?_
    conv => whnf
    refine ifB_f rfl ?_
    exact ⟨G8, S8, _, _, _, rfl, T8, hb8⟩
  obtain ⟨G, S, o4, o5, o6, rfl, T, hb⟩ := pv
  conv => whnf
  refine ⟨⟨by decide, by decide⟩, ?_⟩
  refine forW_range (fun j σ HX => ∃ (G S : Bool → List Tg) (o4 o5 o6 : Option V), σ = [some (.ref a), some (.ref hl), some (.ref kl), some (.bl p), o4, o5, o6] ∧ Two K kHeap HX p a ns hl kl A' L' M' G S ∧ ∀ b, (G b).length ≤ 200) ⟨G, S, _, _, _, rfl, T, fun b => Nat.le_trans (hb b) (by omega)⟩ (fun j σ HX hj pv => ?_) (fun σ HX pv => ?_)
  · obtain ⟨G, S, o4, o5, o6, rfl, T, hb⟩ := pv
    have hj : j < 2 := hj
    obtain ⟨b, hat⟩ := at2 (j := 0 + (j : Int)) (by omega) (by omega)
    have hh := hat (fun b => .ref (A' b))
    have hk := hat (fun b => .ref (M' b))
    obtain ⟨⟨dx, xs, ea, el, hG⟩, ⟨ys, ek, hY⟩, dlk⟩ := T.one b
    have hyl := hY.1
    have hpl := (T.pm b).length_eq
    have hbb := hb b
    conv => whnf
    refine seqAtL (SqL.of T.ek) hk.1 ?_
    conv => whnf
    refine seqLenL (SqL.of ek) ?_
    conv => whnf
    refine ⟨⟨by omega, by omega⟩, ?_⟩
    refine forW_range (fun i σ HY => ∃ (G' S' : Bool → List Tg) (o4 o6 : Option V), σ = [some (.ref a), some (.ref hl), some (.ref kl), some (.bl p), o4, some (.int (0 + (j : Int))), o6] ∧ Two K kHeap HY p a ns hl kl A' L' M' G' S' ∧ (∀ b, (G' b).length ≤ 200) ∧ (G' b).length = (G b).length - i) ⟨G, S, _, _, rfl, T, hb, rfl⟩ (fun i σ HY hi pv => ?_) (fun σ HY pv => ?_)
    · obtain ⟨G', S', o4', o6', rfl, T', hb', hl'⟩ := pv
      have hbb' := hb' b
      conv => whnf
      refine seqAtL (SqL.of T'.eh) hh.1 ?_
      conv => whnf
      refine seqAtL (SqL.of T'.ek) hk.1 ?_
      conv => whnf
      refine takenI cl (T'.one b) (T'.ok b) (T'.pm b) (by omega) fun H8 gs' ks' bt o h1 h2 hl2 => ?_
      conv => whnf
      refine ifB_f rfl ?_
      exact ⟨put2 b gs' G', put2 b ks' S', _, _, rfl, T'.act bt o h1 h2, put2_le hb' (by omega) (Nat.le_refl _), by rw [put2_at]; omega⟩
    · obtain ⟨G', S', o4', o6', rfl, T', hb', hl'⟩ := pv
      have hz : (G' b).length = 0 := by
        have : ((ys.length : Int) + 1).toNat = ys.length + 1 := by omega
        omega
      obtain ⟨⟨dx', xs', ea', el', hG'⟩, _, _⟩ := T'.one b
      conv => whnf
      refine seqAtL (SqL.of T'.eh) hh.1 ?_
      conv => whnf
      refine methAtI ea' rfl M_Heap_size ?_
      conv => whnf
      refine sizeI cl ⟨dx', xs', ea', el', hG'⟩ ?_
      rw [hz]
      conv => whnf
      refine ifB_f rfl ?_
      exact ⟨G', S', _, _, _, rfl, T', hb'⟩
  · obtain ⟨G, S, o4, o5, o6, rfl, T, hb⟩ := pv
    exact q _
end
theorem law_true {K : PySem.W.Frag} {H : Hp} {a : Addr} {ns : List Int} {E : XK} (hS : SqL K H a (ns.map V.int)) (hl : ns.length ≤ 63) : spLaw K [.ref a] H (fun v _ => v = .bl true) E := ⟨a, ns, rfl, ⟨hS, hl⟩, fun _ => rfl⟩
theorem all_mk {l : PySem.W.OpenLaw} {w : World} {K : PySem.W.Frag} {h : Heap} {mg : Str → Option Value} {fa : Addr} (X : K.In h) (G : h.Ns mainGlobals mg) (hfa : mg "law" = some (.ref fa))
    {kHeap : Addr} {kEmpty : Addr} {kNoHouse : Addr} {kNoRule : Addr} {kNoDeal : Addr} {kNoDeed : Addr} {kNoRide : Addr} {kNoIll : Addr} {kNoLine : Addr} {kNoFloor : Addr} {kNoLift : Addr} {kTwice : Addr} {kTooMany : Addr} {kCourtError : Addr} {f1 : Addr} {od1 an1 : Option Addr} {sl1 : Array (Option Value)} {oc1 kV1 dc1 pm1 cd1 ct1 : Value} {f2 : Addr} {od2 an2 : Option Addr} {sl2 : Array (Option Value)} {oc2 kV2 dc2 pm2 cd2 ct2 : Value} {f3 : Addr} {od3 an3 : Option Addr} {sl3 : Array (Option Value)} {oc3 kV3 dc3 pm3 cd3 ct3 : Value} {f4 : Addr} {od4 an4 : Option Addr} {sl4 : Array (Option Value)} {oc4 kV4 dc4 pm4 cd4 ct4 : Value} {f5 : Addr} {od5 an5 : Option Addr} {sl5 : Array (Option Value)} {oc5 kV5 dc5 pm5 cd5 ct5 : Value} {f6 : Addr} {od6 an6 : Option Addr} {sl6 : Array (Option Value)} {oc6 kV6 dc6 pm6 cd6 ct6 : Value} {f7 : Addr} {od7 an7 : Option Addr} {sl7 : Array (Option Value)} {oc7 kV7 dc7 pm7 cd7 ct7 : Value} {f8 : Addr} {od8 an8 : Option Addr} {sl8 : Array (Option Value)} {oc8 kV8 dc8 pm8 cd8 ct8 : Value} {f9 : Addr} {od9 an9 : Option Addr} {sl9 : Array (Option Value)} {oc9 kV9 dc9 pm9 cd9 ct9 : Value} {f10 : Addr} {od10 an10 : Option Addr} {sl10 : Array (Option Value)} {oc10 kV10 dc10 pm10 cd10 ct10 : Value} {f11 : Addr} {od11 an11 : Option Addr} {sl11 : Array (Option Value)} {oc11 kV11 dc11 pm11 cd11 ct11 : Value} {f12 : Addr} {od12 an12 : Option Addr} {sl12 : Array (Option Value)} {oc12 kV12 dc12 pm12 cd12 ct12 : Value} {f13 : Addr} {od13 an13 : Option Addr} {sl13 : Array (Option Value)} {oc13 kV13 dc13 pm13 cd13 ct13 : Value} {f14 : Addr} {od14 an14 : Option Addr} {sl14 : Array (Option Value)} {oc14 kV14 dc14 pm14 cd14 ct14 : Value} {f15 : Addr} {od15 an15 : Option Addr} {sl15 : Array (Option Value)} {oc15 kV15 dc15 pm15 cd15 ct15 : Value} {f16 : Addr} {od16 an16 : Option Addr} {sl16 : Array (Option Value)} {oc16 kV16 dc16 pm16 cd16 ct16 : Value}
    (z_Heap : PySem.W.nsIn K mainGlobals "Heap" = some (some (.ref kHeap)))
    (z_Empty : PySem.W.nsIn K mainGlobals "Empty" = some (some (.ref kEmpty)))
    (z_NoHouse : PySem.W.nsIn K mainGlobals "NoHouse" = some (some (.ref kNoHouse)))
    (z_NoRule : PySem.W.nsIn K mainGlobals "NoRule" = some (some (.ref kNoRule)))
    (z_NoDeal : PySem.W.nsIn K mainGlobals "NoDeal" = some (some (.ref kNoDeal)))
    (z_NoDeed : PySem.W.nsIn K mainGlobals "NoDeed" = some (some (.ref kNoDeed)))
    (z_NoRide : PySem.W.nsIn K mainGlobals "NoRide" = some (some (.ref kNoRide)))
    (z_NoIll : PySem.W.nsIn K mainGlobals "NoIll" = some (some (.ref kNoIll)))
    (z_NoLine : PySem.W.nsIn K mainGlobals "NoLine" = some (some (.ref kNoLine)))
    (z_NoFloor : PySem.W.nsIn K mainGlobals "NoFloor" = some (some (.ref kNoFloor)))
    (z_NoLift : PySem.W.nsIn K mainGlobals "NoLift" = some (some (.ref kNoLift)))
    (z_Twice : PySem.W.nsIn K mainGlobals "Twice" = some (some (.ref kTwice)))
    (z_TooMany : PySem.W.nsIn K mainGlobals "TooMany" = some (some (.ref kTooMany)))
    (z_CourtError : PySem.W.nsIn K mainGlobals "CourtError" = some (some (.ref kCourtError)))
    (a1 : PySem.W.nsIn K mainGlobals "swap" = some (some (.ref f1))) (l1 : K.lookup f1 = some ⟨oc1, od1, .func (PySem.W.fnOf "swap" "swap" (defArgs sSwap) (defBody sSwap) (defScope sSwap) .none kV1 dc1 pm1 an1 cd1 ct1), sl1⟩) (c1 : PySem.W.codeIn K cd1 "swap" = true) (k1 : PySem.W.keepIn K (.ref f1) = true)
    (a2 : PySem.W.nsIn K mainGlobals "rise" = some (some (.ref f2))) (l2 : K.lookup f2 = some ⟨oc2, od2, .func (PySem.W.fnOf "rise" "rise" (defArgs sRise) (defBody sRise) (defScope sRise) .none kV2 dc2 pm2 an2 cd2 ct2), sl2⟩) (c2 : PySem.W.codeIn K cd2 "rise" = true) (k2 : PySem.W.keepIn K (.ref f2) = true)
    (a3 : PySem.W.nsIn K mainGlobals "lesser_below" = some (some (.ref f3))) (l3 : K.lookup f3 = some ⟨oc3, od3, .func (PySem.W.fnOf "lesser_below" "lesser_below" (defArgs sLesserBelow) (defBody sLesserBelow) (defScope sLesserBelow) .none kV3 dc3 pm3 an3 cd3 ct3), sl3⟩) (c3 : PySem.W.codeIn K cd3 "lesser_below" = true) (k3 : PySem.W.keepIn K (.ref f3) = true)
    (a4 : PySem.W.nsIn K mainGlobals "sink" = some (some (.ref f4))) (l4 : K.lookup f4 = some ⟨oc4, od4, .func (PySem.W.fnOf "sink" "sink" (defArgs sSink) (defBody sSink) (defScope sSink) .none kV4 dc4 pm4 an4 cd4 ct4), sl4⟩) (c4 : PySem.W.codeIn K cd4 "sink" = true) (k4 : PySem.W.keepIn K (.ref f4) = true)
    (a5 : PySem.W.findIn K (.ref kHeap) "__init__" = some (some (.ref f5))) (l5 : K.lookup f5 = some ⟨oc5, od5, .func (PySem.W.fnOf "__init__" "Heap.__init__" (defArgs sHeapInit) (defBody sHeapInit) (defScope sHeapInit) .none kV5 dc5 pm5 an5 cd5 ct5), sl5⟩) (c5 : PySem.W.codeIn K cd5 "Heap.__init__" = true) (k5 : PySem.W.keepIn K (.ref f5) = true)
    (fn5 : PySem.W.isFn K (.ref f5) = true)
    (a6 : PySem.W.findIn K (.ref kHeap) "put" = some (some (.ref f6))) (l6 : K.lookup f6 = some ⟨oc6, od6, .func (PySem.W.fnOf "put" "Heap.put" (defArgs sHeapPut) (defBody sHeapPut) (defScope sHeapPut) .none kV6 dc6 pm6 an6 cd6 ct6), sl6⟩) (c6 : PySem.W.codeIn K cd6 "Heap.put" = true) (k6 : PySem.W.keepIn K (.ref f6) = true)
    (fn6 : PySem.W.isFn K (.ref f6) = true)
    (a7 : PySem.W.findIn K (.ref kHeap) "take" = some (some (.ref f7))) (l7 : K.lookup f7 = some ⟨oc7, od7, .func (PySem.W.fnOf "take" "Heap.take" (defArgs sHeapTake) (defBody sHeapTake) (defScope sHeapTake) .none kV7 dc7 pm7 an7 cd7 ct7), sl7⟩) (c7 : PySem.W.codeIn K cd7 "Heap.take" = true) (k7 : PySem.W.keepIn K (.ref f7) = true)
    (fn7 : PySem.W.isFn K (.ref f7) = true)
    (a8 : PySem.W.findIn K (.ref kHeap) "size" = some (some (.ref f8))) (l8 : K.lookup f8 = some ⟨oc8, od8, .func (PySem.W.fnOf "size" "Heap.size" (defArgs sHeapSize) (defBody sHeapSize) (defScope sHeapSize) .none kV8 dc8 pm8 an8 cd8 ct8), sl8⟩) (c8 : PySem.W.codeIn K cd8 "Heap.size" = true) (k8 : PySem.W.keepIn K (.ref f8) = true)
    (fn8 : PySem.W.isFn K (.ref f8) = true)
    (a9 : PySem.W.nsIn K mainGlobals "_law_draw" = some (some (.ref f9))) (l9 : K.lookup f9 = some ⟨oc9, od9, .func (PySem.W.fnOf "_law_draw" "_law_draw" (defArgs sLDraw) (defBody sLDraw) (defScope sLDraw) .none kV9 dc9 pm9 an9 cd9 ct9), sl9⟩) (c9 : PySem.W.codeIn K cd9 "_law_draw" = true) (k9 : PySem.W.keepIn K (.ref f9) = true)
    (a10 : PySem.W.nsIn K mainGlobals "_law_others" = some (some (.ref f10))) (l10 : K.lookup f10 = some ⟨oc10, od10, .func (PySem.W.fnOf "_law_others" "_law_others" (defArgs sLOthers) (defBody sLOthers) (defScope sLOthers) .none kV10 dc10 pm10 an10 cd10 ct10), sl10⟩) (c10 : PySem.W.codeIn K cd10 "_law_others" = true) (k10 : PySem.W.keepIn K (.ref f10) = true)
    (a11 : PySem.W.nsIn K mainGlobals "_law_whole" = some (some (.ref f11))) (l11 : K.lookup f11 = some ⟨oc11, od11, .func (PySem.W.fnOf "_law_whole" "_law_whole" (defArgs sLWhole) (defBody sLWhole) (defScope sLWhole) .none kV11 dc11 pm11 an11 cd11 ct11), sl11⟩) (c11 : PySem.W.codeIn K cd11 "_law_whole" = true) (k11 : PySem.W.keepIn K (.ref f11) = true)
    (a12 : PySem.W.nsIn K mainGlobals "_law_number" = some (some (.ref f12))) (l12 : K.lookup f12 = some ⟨oc12, od12, .func (PySem.W.fnOf "_law_number" "_law_number" (defArgs sLNumber) (defBody sLNumber) (defScope sLNumber) .none kV12 dc12 pm12 an12 cd12 ct12), sl12⟩) (c12 : PySem.W.codeIn K cd12 "_law_number" = true) (k12 : PySem.W.keepIn K (.ref f12) = true)
    (a13 : PySem.W.nsIn K mainGlobals "_law_thing" = some (some (.ref f13))) (l13 : K.lookup f13 = some ⟨oc13, od13, .func (PySem.W.fnOf "_law_thing" "_law_thing" (defArgs sLThing) (defBody sLThing) (defScope sLThing) .none kV13 dc13 pm13 an13 cd13 ct13), sl13⟩) (c13 : PySem.W.codeIn K cd13 "_law_thing" = true) (k13 : PySem.W.keepIn K (.ref f13) = true)
    (a14 : PySem.W.nsIn K mainGlobals "_law_taken" = some (some (.ref f14))) (l14 : K.lookup f14 = some ⟨oc14, od14, .func (PySem.W.fnOf "_law_taken" "_law_taken" (defArgs sLTaken) (defBody sLTaken) (defScope sLTaken) .none kV14 dc14 pm14 an14 cd14 ct14), sl14⟩) (c14 : PySem.W.codeIn K cd14 "_law_taken" = true) (k14 : PySem.W.keepIn K (.ref f14) = true)
    (a15 : PySem.W.nsIn K mainGlobals "_law_size_right" = some (some (.ref f15))) (l15 : K.lookup f15 = some ⟨oc15, od15, .func (PySem.W.fnOf "_law_size_right" "_law_size_right" (defArgs sLSizeRight) (defBody sLSizeRight) (defScope sLSizeRight) .none kV15 dc15 pm15 an15 cd15 ct15), sl15⟩) (c15 : PySem.W.codeIn K cd15 "_law_size_right" = true) (k15 : PySem.W.keepIn K (.ref f15) = true)
    (a16 : PySem.W.nsIn K mainGlobals "law" = some (some (.ref f16))) (l16 : K.lookup f16 = some ⟨oc16, od16, .func (PySem.W.fnOf "law" "law" (defArgs sLaw) (defBody sLaw) (defScope sLaw) .none kV16 dc16 pm16 an16 cd16 ct16), sl16⟩) (c16 : PySem.W.codeIn K cd16 "law" = true) (k16 : PySem.W.keepIn K (.ref f16) = true)
    (pg_Heap : PySem.W.plainGet K kHeap Str.empty = true)
    (hd_Heap : PySem.W.hasDictIn K kHeap = true)
    (po_Heap : PySem.W.plainOver K kHeap = true)
    (sa_Heap : PySem.W.findIn K (.ref kHeap) "__setattr__" = some (some (.builtin "object.__setattr__")))
    (gk1 : PySem.W.specialIn K (.builtin "object.__class__") "__get__" = some (some (.builtin "getset_descriptor.__get__")))
    (gk2 : PySem.W.takesIn K (.builtin "object.__class__") = some true)
    (cc_Heap : PySem.W.findIn K (.ref kHeap) "__class__" = some (some (.builtin "object.__class__")))
    (mo_Heap : PySem.W.mroIn K kHeap (.type "object") = some true)
    (A_Heap_things : PySem.W.findIn K (.ref kHeap) "things" = some none)
    (z_len : PySem.W.nsIn K mainGlobals "len" = some none)
    (i_Empty : PySem.W.excIn K kEmpty [.type "ValueError", .type "Exception", .type "BaseException", .type "object"] "ValueError.__new__" = true)
    (ga_Empty : PySem.W.findIn K (.ref kEmpty) "__getattribute__" = some (some (.builtin "BaseException.__getattribute__")))
    (gr_Empty : PySem.W.findIn K (.ref kEmpty) "__getattr__" = some none)
    (cl_Empty : PySem.W.findIn K (.ref kEmpty) "__class__" = some (some (.builtin "object.__class__")))
    (mB_Empty : PySem.W.mroIn K kEmpty (.type "BaseException") = some true)
    (mO_Empty : PySem.W.mroIn K kEmpty (.type "object") = some true)
    (z_isinstance : PySem.W.nsIn K mainGlobals "isinstance" = some none)
    (z_range : PySem.W.nsIn K mainGlobals "range" = some none)
    (z_ValueError : PySem.W.nsIn K mainGlobals "ValueError" = some none)
    (t_Empty_NoHouse : PySem.W.kitOne K (.ref kEmpty) (.ref kNoHouse) = some false)
    (t_Empty_NoRule : PySem.W.kitOne K (.ref kEmpty) (.ref kNoRule) = some false)
    (t_Empty_NoDeal : PySem.W.kitOne K (.ref kEmpty) (.ref kNoDeal) = some false)
    (t_Empty_NoDeed : PySem.W.kitOne K (.ref kEmpty) (.ref kNoDeed) = some false)
    (t_Empty_NoRide : PySem.W.kitOne K (.ref kEmpty) (.ref kNoRide) = some false)
    (t_Empty_NoIll : PySem.W.kitOne K (.ref kEmpty) (.ref kNoIll) = some false)
    (t_Empty_NoLine : PySem.W.kitOne K (.ref kEmpty) (.ref kNoLine) = some false)
    (t_Empty_Empty : PySem.W.kitOne K (.ref kEmpty) (.ref kEmpty) = some true)
    (t_Empty_NoFloor : PySem.W.kitOne K (.ref kEmpty) (.ref kNoFloor) = some false)
    (t_Empty_NoLift : PySem.W.kitOne K (.ref kEmpty) (.ref kNoLift) = some false)
    (t_Empty_Twice : PySem.W.kitOne K (.ref kEmpty) (.ref kTwice) = some false)
    (t_Empty_TooMany : PySem.W.kitOne K (.ref kEmpty) (.ref kTooMany) = some false)
    (t_Empty_ValueError : PySem.W.kitOne K (.ref kEmpty) (.type "ValueError") = some true)
    (z_int : PySem.W.nsIn K mainGlobals "int" = some none)
    (z_bool : PySem.W.nsIn K mainGlobals "bool" = some none)
    (z_tuple : PySem.W.nsIn K mainGlobals "tuple" = some none)
    (z_min : PySem.W.nsIn K mainGlobals "min" = some none)
    (i_CourtError : PySem.W.excIn K kCourtError [.type "ValueError", .type "Exception", .type "BaseException", .type "object"] "ValueError.__new__" = true)
    (mr_Empty_CourtError : PySem.W.mroIn K kEmpty (.ref kCourtError) = some true)
    (z_max : PySem.W.nsIn K mainGlobals "max" = some none)
    (mk_Heap : PySem.W.makesIn K kHeap = true)
    (in_Heap : PySem.W.findIn K (.ref kHeap) "__init__" = some (some (.ref f5)))
    (kp_Heap : PySem.W.keepIn K (.ref kHeap) = true) :
    ∃ fd : FuncData, (∀ (s : Shared) (v : Value), BindsTo s fd ⟨[v], []⟩ [("_law_script", v)]) ∧ ∀ base : Heap, K.In base → base.Ns mainGlobals mg → FnOk l.prog w K mg base CX0 5 fa fd ["_law_script"] (spLaw K) := by
  have e := hfa.symm.trans (PySem.W.mg_of X G a16)
  cases e
  have g_Heap := PySem.W.mg_of X G z_Heap
  have g_Empty := PySem.W.mg_of X G z_Empty
  have g_NoHouse := PySem.W.mg_of X G z_NoHouse
  have g_NoRule := PySem.W.mg_of X G z_NoRule
  have g_NoDeal := PySem.W.mg_of X G z_NoDeal
  have g_NoDeed := PySem.W.mg_of X G z_NoDeed
  have g_NoRide := PySem.W.mg_of X G z_NoRide
  have g_NoIll := PySem.W.mg_of X G z_NoIll
  have g_NoLine := PySem.W.mg_of X G z_NoLine
  have g_NoFloor := PySem.W.mg_of X G z_NoFloor
  have g_NoLift := PySem.W.mg_of X G z_NoLift
  have g_Twice := PySem.W.mg_of X G z_Twice
  have g_TooMany := PySem.W.mg_of X G z_TooMany
  have g_CourtError := PySem.W.mg_of X G z_CourtError
  have F1 := fun_mk (x := "swap") (qual := "swap") (st := sSwap) l1 c1 k1
  have b1 := F1.binds (ps := ["things", "one", "other"]) fun _ _ _ _ _ _ us hl => match us, hl with | [_, _, _], _ => rfl
  have F2 := fun_mk (x := "rise") (qual := "rise") (st := sRise) l2 c2 k2
  have b2 := F2.binds (ps := ["things"]) fun _ _ _ _ _ _ us hl => match us, hl with | [_], _ => rfl
  have F3 := fun_mk (x := "lesser_below") (qual := "lesser_below") (st := sLesserBelow) l3 c3 k3
  have b3 := F3.binds (ps := ["things", "place"]) fun _ _ _ _ _ _ us hl => match us, hl with | [_, _], _ => rfl
  have F4 := fun_mk (x := "sink") (qual := "sink") (st := sSink) l4 c4 k4
  have b4 := F4.binds (ps := ["things"]) fun _ _ _ _ _ _ us hl => match us, hl with | [_], _ => rfl
  have F5 := fun_mk (x := "__init__") (qual := "Heap.__init__") (st := sHeapInit) l5 c5 k5
  have b5 := F5.binds (ps := ["self"]) fun _ _ _ _ _ _ us hl => match us, hl with | [_], _ => rfl
  have F6 := fun_mk (x := "put") (qual := "Heap.put") (st := sHeapPut) l6 c6 k6
  have b6 := F6.binds (ps := ["self", "thing"]) fun _ _ _ _ _ _ us hl => match us, hl with | [_, _], _ => rfl
  have F7 := fun_mk (x := "take") (qual := "Heap.take") (st := sHeapTake) l7 c7 k7
  have b7 := F7.binds (ps := ["self"]) fun _ _ _ _ _ _ us hl => match us, hl with | [_], _ => rfl
  have F8 := fun_mk (x := "size") (qual := "Heap.size") (st := sHeapSize) l8 c8 k8
  have b8 := F8.binds (ps := ["self"]) fun _ _ _ _ _ _ us hl => match us, hl with | [_], _ => rfl
  have F9 := fun_mk (x := "_law_draw") (qual := "_law_draw") (st := sLDraw) l9 c9 k9
  have b9 := F9.binds (ps := ["_law_script", "_law_k", "_law_many"]) fun _ _ _ _ _ _ us hl => match us, hl with | [_, _, _], _ => rfl
  have F10 := fun_mk (x := "_law_others") (qual := "_law_others") (st := sLOthers) l10 c10 k10
  have b10 := F10.binds (ps := ["_law_e"]) fun _ _ _ _ _ _ us hl => match us, hl with | [_], _ => rfl
  have F11 := fun_mk (x := "_law_whole") (qual := "_law_whole") (st := sLWhole) l11 c11 k11
  have b11 := F11.binds (ps := ["_law_thing_here"]) fun _ _ _ _ _ _ us hl => match us, hl with | [_], _ => rfl
  have F12 := fun_mk (x := "_law_number") (qual := "_law_number") (st := sLNumber) l12 c12 k12
  have b12 := F12.binds (ps := ["_law_script", "_law_k"]) fun _ _ _ _ _ _ us hl => match us, hl with | [_, _], _ => rfl
  have F13 := fun_mk (x := "_law_thing") (qual := "_law_thing") (st := sLThing) l13 c13 k13
  have b13 := F13.binds (ps := ["_law_script", "_law_k", "_law_plain"]) fun _ _ _ _ _ _ us hl => match us, hl with | [_, _, _], _ => rfl
  have F14 := fun_mk (x := "_law_taken") (qual := "_law_taken") (st := sLTaken) l14 c14 k14
  have b14 := F14.binds (ps := ["_law_heap", "_law_kept"]) fun _ _ _ _ _ _ us hl => match us, hl with | [_, _], _ => rfl
  have F15 := fun_mk (x := "_law_size_right") (qual := "_law_size_right") (st := sLSizeRight) l15 c15 k15
  have b15 := F15.binds (ps := ["_law_heap", "_law_kept"]) fun _ _ _ _ _ _ us hl => match us, hl with | [_, _], _ => rfl
  have F16 := fun_mk (x := "law") (qual := "law") (st := sLaw) l16 c16 k16
  have b16 := F16.binds (ps := ["_law_script"]) fun _ _ _ _ _ _ us hl => match us, hl with | [_], _ => rfl
  have K_Heap : L2.Cls K kHeap := ⟨pg_Heap, hd_Heap, po_Heap, sa_Heap⟩
  have I_Heap : L2.InsK K kHeap := ⟨K_Heap, cc_Heap, gk1, gk2, mo_Heap⟩
  have m_len := PySem.W.mg_none_of X G z_len
  have k_Empty : L2.ExcK K kEmpty := ⟨ga_Empty, gr_Empty, cl_Empty, mB_Empty, mO_Empty⟩
  have m_isinstance := PySem.W.mg_none_of X G z_isinstance
  have m_range := PySem.W.mg_none_of X G z_range
  have m_ValueError := PySem.W.mg_none_of X G z_ValueError
  have m_int := PySem.W.mg_none_of X G z_int
  have m_bool := PySem.W.mg_none_of X G z_bool
  have m_tuple := PySem.W.mg_none_of X G z_tuple
  have m_min := PySem.W.mg_none_of X G z_min
  have e_CourtError : L2.Exc0 K kCourtError := ⟨_, _, i_CourtError, by decide +kernel⟩
  have e_Empty : L2.Exc0 K kEmpty := ⟨_, _, i_Empty, by decide +kernel⟩
  have cat_Empty_CourtError : L2.Catches K (.ref kEmpty) kCourtError true := ⟨kEmpty, rfl, e_Empty, mr_Empty_CourtError⟩
  have m_max := PySem.W.mg_none_of X G z_max
  refine ⟨PySem.W.fnOf "law" "law" (defArgs sLaw) (defBody sLaw) (defScope sLaw) .none kV16 dc16 pm16 an16 cd16 ct16, fun s v => .of_eq rfl, fun base _ _ => ?_⟩
  have q1 := ok_swap (P := l.prog) (w := w) (mg := mg) (base := base) F1 
  have c_swap : L2.Cal l.prog w K mg base _ "swap" ["things", "one", "other"] _ := ⟨_, _, q1, b1, k1, PySem.W.mg_of X G a1⟩
  have q2 := ok_rise (P := l.prog) (w := w) (mg := mg) (base := base) F2 m_len c_swap
  have c_rise : L2.Cal l.prog w K mg base _ "rise" ["things"] _ := ⟨_, _, q2, b2, k2, PySem.W.mg_of X G a2⟩
  have q3 := ok_low (P := l.prog) (w := w) (mg := mg) (base := base) F3 m_len
  have c_lesser_below : L2.Cal l.prog w K mg base _ "lesser_below" ["things", "place"] _ := ⟨_, _, q3, b3, k3, PySem.W.mg_of X G a3⟩
  have q4 := ok_sink (P := l.prog) (w := w) (mg := mg) (base := base) F4 m_len c_swap c_lesser_below
  have c_sink : L2.Cal l.prog w K mg base _ "sink" ["things"] _ := ⟨_, _, q4, b4, k4, PySem.W.mg_of X G a4⟩
  have q5 := ok_hInit (P := l.prog) (w := w) (mg := mg) (base := base) F5 
  have m_Heap : L2.MkCal l.prog w K mg base L2.CX0 _ "Heap" kHeap _ := ⟨_, _, _, ⟨mk_Heap, in_Heap, fn5, kp_Heap⟩, q5, b5, g_Heap⟩
  have q6 := ok_put (P := l.prog) (w := w) (mg := mg) (base := base) F6 c_rise
  have M_Heap_put : L2.MCal l.prog w K mg base L2.CX0 _ "put" kHeap _ := ⟨_, _, _, K_Heap, ⟨a6, fn6, k6⟩, q6, b6⟩
  have q7 := ok_take (P := l.prog) (w := w) (mg := mg) (base := base) F7 m_len g_Empty i_Empty c_swap c_sink
  have M_Heap_take : L2.MCal l.prog w K mg base (L2.CXE l.prog w) _ "take" kHeap _ := ⟨_, _, _, K_Heap, ⟨a7, fn7, k7⟩, q7, b7⟩
  have q8 := ok_size (P := l.prog) (w := w) (mg := mg) (base := base) F8 m_len
  have M_Heap_size : L2.MCal l.prog w K mg base L2.CX0 _ "size" kHeap _ := ⟨_, _, _, K_Heap, ⟨a8, fn8, k8⟩, q8, b8⟩
  have q9 := ok_d (P := l.prog) (w := w) (mg := mg) (base := base) F9 m_len
  have c_law_draw : L2.Cal l.prog w K mg base _ "_law_draw" ["_law_script", "_law_k", "_law_many"] _ := ⟨_, _, q9, b9, k9, PySem.W.mg_of X G a9⟩
  have q10 := ok_others (P := l.prog) (w := w) (mg := mg) (base := base) F10 k_Empty m_isinstance m_range m_ValueError g_NoHouse g_NoRule g_NoDeal g_NoDeed g_NoRide g_NoIll g_NoLine g_Empty g_NoFloor g_NoLift g_Twice g_TooMany t_Empty_NoHouse t_Empty_NoRule t_Empty_NoDeal t_Empty_NoDeed t_Empty_NoRide t_Empty_NoIll t_Empty_NoLine t_Empty_Empty t_Empty_NoFloor t_Empty_NoLift t_Empty_Twice t_Empty_TooMany t_Empty_ValueError
  have h_law_others : L2.CalH l.prog w K mg base _ "_law_others" ["_law_e"] _ := ⟨_, _, q10, b10, k10, PySem.W.mg_of X G a10⟩
  have q11 := ok_whole (P := l.prog) (w := w) (mg := mg) (base := base) F11 m_isinstance m_int m_bool
  have c_law_whole : L2.Cal l.prog w K mg base _ "_law_whole" ["_law_thing_here"] _ := ⟨_, _, q11, b11, k11, PySem.W.mg_of X G a11⟩
  have q12 := ok_num (P := l.prog) (w := w) (mg := mg) (base := base) F12 c_law_draw
  have c_law_number : L2.Cal l.prog w K mg base _ "_law_number" ["_law_script", "_law_k"] _ := ⟨_, _, q12, b12, k12, PySem.W.mg_of X G a12⟩
  have q13 := ok_thing (P := l.prog) (w := w) (mg := mg) (base := base) F13 m_tuple m_range c_law_draw c_law_number
  have c_law_thing : L2.Cal l.prog w K mg base _ "_law_thing" ["_law_script", "_law_k", "_law_plain"] _ := ⟨_, _, q13, b13, k13, PySem.W.mg_of X G a13⟩
  have q14 := ok_taken (P := l.prog) (w := w) (mg := mg) (base := base) F14 m_min m_isinstance m_tuple g_CourtError e_CourtError cat_Empty_CourtError M_Heap_take h_law_others c_law_whole
  have c_law_taken : L2.Cal l.prog w K mg base _ "_law_taken" ["_law_heap", "_law_kept"] _ := ⟨_, _, q14, b14, k14, PySem.W.mg_of X G a14⟩
  have q15 := ok_szR (P := l.prog) (w := w) (mg := mg) (base := base) F15 m_len M_Heap_size c_law_whole
  have c_law_size_right : L2.Cal l.prog w K mg base _ "_law_size_right" ["_law_heap", "_law_kept"] _ := ⟨_, _, q15, b15, k15, PySem.W.mg_of X G a15⟩
  exact ok_law F16 m_range m_max m_min m_len (.mk I_Heap A_Heap_things) m_Heap M_Heap_put M_Heap_size c_law_draw c_law_thing c_law_taken c_law_size_right
theorem walk {l : PySem.W.OpenLaw} {q : Program} {loose : List Str} {XP : (Str → Option Value) → Heap → Prop} {YP : World → Heap → Prop} {d : DefRec} {K : Params → PySem.W.Frag} (hn : l.most = some 63) (hdf : d.params.defaults = [])
    (hY : ∀ (w : World) (h : Heap), YP w h → (K w.params).In h)
    (F : ∀ (w : World) (mg : Str → Option Value) (fa : Addr) (h : Heap), (K w.params).In h → h.Ns mainGlobals mg → mg d.name = some (.ref fa) →
      ∃ fd : FuncData, (∀ (s : Shared) (u : Value), BindsTo s fd ⟨[u], []⟩ [("_law_script", u)]) ∧ ∀ base : Heap, (K w.params).In base → base.Ns mainGlobals mg → FnOk l.prog w (K w.params) mg base CX0 5 fa fd ["_law_script"] (spLaw (K w.params))) :
    PySem.W.WalkO q loose XP YP l.row.toRowW d [] (fun f vs => PySem.call f vs) :=
  L2.walk_of (n := 63) (k := 5) (x := "_law_script") (CX := fun _ => CX0) (sp := fun w => spLaw (K w.params)) hn (by decide) hdf ⟨rfl, by decide, by decide⟩ hY F (fun _ _ a ns hl _ hS => law_true hS hl) fun _ _ _ _ _ z => z
end My
open PySem PySem.W PyProof.Rows
set_option maxRecDepth 100000 in
set_option maxHeartbeats 0 in
theorem PySem.Challenge.cw_liftcourt_k69_heaps_holds : PySem.Challenge.rw_liftcourt_k69_heaps.Holds := by
  w_on; o_law; k_head; (case hw => w_witness2)
  k_fill
  refine My.walk (l := PySem.Challenge.rw_liftcourt_k69_heaps) rfl rfl (fun w h Y => PySem.W.kIn_of Y) ?F
  case F =>
    intro w mg fa h KX G hmg
    refine' My.all_mk KX G hmg ?z_Heap ?z_Empty ?z_NoHouse ?z_NoRule ?z_NoDeal ?z_NoDeed ?z_NoRide ?z_NoIll ?z_NoLine ?z_NoFloor ?z_NoLift ?z_Twice ?z_TooMany ?z_CourtError ?a1 ?l1 ?c1 ?k1 ?a2 ?l2 ?c2 ?k2 ?a3 ?l3 ?c3 ?k3 ?a4 ?l4 ?c4 ?k4 ?a5 ?l5 ?c5 ?k5 ?fn5 ?a6 ?l6 ?c6 ?k6 ?fn6 ?a7 ?l7 ?c7 ?k7 ?fn7 ?a8 ?l8 ?c8 ?k8 ?fn8 ?a9 ?l9 ?c9 ?k9 ?a10 ?l10 ?c10 ?k10 ?a11 ?l11 ?c11 ?k11 ?a12 ?l12 ?c12 ?k12 ?a13 ?l13 ?c13 ?k13 ?a14 ?l14 ?c14 ?k14 ?a15 ?l15 ?c15 ?k15 ?a16 ?l16 ?c16 ?k16 ?pg_Heap ?hd_Heap ?po_Heap ?sa_Heap ?gk1 ?gk2 ?cc_Heap ?mo_Heap ?A_Heap_things ?z_len ?i_Empty ?ga_Empty ?gr_Empty ?cl_Empty ?mB_Empty ?mO_Empty ?z_isinstance ?z_range ?z_ValueError ?t_Empty_NoHouse ?t_Empty_NoRule ?t_Empty_NoDeal ?t_Empty_NoDeed ?t_Empty_NoRide ?t_Empty_NoIll ?t_Empty_NoLine ?t_Empty_Empty ?t_Empty_NoFloor ?t_Empty_NoLift ?t_Empty_Twice ?t_Empty_TooMany ?t_Empty_ValueError ?z_int ?z_bool ?z_tuple ?z_min ?i_CourtError ?mr_Empty_CourtError ?z_max ?mk_Heap ?in_Heap ?kp_Heap
    (case z_Heap => k_is)
    (case z_Empty => k_is)
    (case z_NoHouse => k_is)
    (case z_NoRule => k_is)
    (case z_NoDeal => k_is)
    (case z_NoDeed => k_is)
    (case z_NoRide => k_is)
    (case z_NoIll => k_is)
    (case z_NoLine => k_is)
    (case z_NoFloor => k_is)
    (case z_NoLift => k_is)
    (case z_Twice => k_is)
    (case z_TooMany => k_is)
    (case z_CourtError => k_is)
    (case a1 => k_is)
    (case l1 => k_is)
    (case c1 => k_is)
    (case k1 => k_is)
    (case a2 => k_is)
    (case l2 => k_is)
    (case c2 => k_is)
    (case k2 => k_is)
    (case a3 => k_is)
    (case l3 => k_is)
    (case c3 => k_is)
    (case k3 => k_is)
    (case a4 => k_is)
    (case l4 => k_is)
    (case c4 => k_is)
    (case k4 => k_is)
    (case a5 => k_is)
    (case l5 => k_is)
    (case c5 => k_is)
    (case k5 => k_is)
    (case fn5 => k_is)
    (case a6 => k_is)
    (case l6 => k_is)
    (case c6 => k_is)
    (case k6 => k_is)
    (case fn6 => k_is)
    (case a7 => k_is)
    (case l7 => k_is)
    (case c7 => k_is)
    (case k7 => k_is)
    (case fn7 => k_is)
    (case a8 => k_is)
    (case l8 => k_is)
    (case c8 => k_is)
    (case k8 => k_is)
    (case fn8 => k_is)
    (case a9 => k_is)
    (case l9 => k_is)
    (case c9 => k_is)
    (case k9 => k_is)
    (case a10 => k_is)
    (case l10 => k_is)
    (case c10 => k_is)
    (case k10 => k_is)
    (case a11 => k_is)
    (case l11 => k_is)
    (case c11 => k_is)
    (case k11 => k_is)
    (case a12 => k_is)
    (case l12 => k_is)
    (case c12 => k_is)
    (case k12 => k_is)
    (case a13 => k_is)
    (case l13 => k_is)
    (case c13 => k_is)
    (case k13 => k_is)
    (case a14 => k_is)
    (case l14 => k_is)
    (case c14 => k_is)
    (case k14 => k_is)
    (case a15 => k_is)
    (case l15 => k_is)
    (case c15 => k_is)
    (case k15 => k_is)
    (case a16 => k_is)
    (case l16 => k_is)
    (case c16 => k_is)
    (case k16 => k_is)
    (case pg_Heap => k_is)
    (case hd_Heap => k_is)
    (case po_Heap => k_is)
    (case sa_Heap => k_is)
    (case gk1 => k_is)
    (case gk2 => k_is)
    (case cc_Heap => k_is)
    (case mo_Heap => k_is)
    (case A_Heap_things => k_is)
    (case z_len => k_is)
    (case i_Empty => kernel_rfl)
    (case ga_Empty => k_is)
    (case gr_Empty => k_is)
    (case cl_Empty => k_is)
    (case mB_Empty => k_is)
    (case mO_Empty => k_is)
    (case z_isinstance => k_is)
    (case z_range => k_is)
    (case z_ValueError => k_is)
    (case t_Empty_NoHouse => kernel_rfl)
    (case t_Empty_NoRule => kernel_rfl)
    (case t_Empty_NoDeal => kernel_rfl)
    (case t_Empty_NoDeed => kernel_rfl)
    (case t_Empty_NoRide => kernel_rfl)
    (case t_Empty_NoIll => kernel_rfl)
    (case t_Empty_NoLine => kernel_rfl)
    (case t_Empty_Empty => kernel_rfl)
    (case t_Empty_NoFloor => kernel_rfl)
    (case t_Empty_NoLift => kernel_rfl)
    (case t_Empty_Twice => kernel_rfl)
    (case t_Empty_TooMany => kernel_rfl)
    (case t_Empty_ValueError => kernel_rfl)
    (case z_int => k_is)
    (case z_bool => k_is)
    (case z_tuple => k_is)
    (case z_min => k_is)
    (case i_CourtError => kernel_rfl)
    (case mr_Empty_CourtError => k_is)
    (case z_max => k_is)
    (case mk_Heap => k_is)
    (case in_Heap => k_is)
    (case kp_Heap => k_is)
