import PyProof.Rows.All
import Wide.All
import OpenK.AllK
import Wide.FinOn
import Lean
import PyProof.EqAt
import PyProof.EqKinds
import PyProof.TupleCall
import KE.LcSums
import KE.KIntText
import KE.IntTextLaws
import KE.KRevIter
import PyProof.NeKinds
import PyProof.Rows.Range3
import PySem.Challenge.RW_liftcourt_k41_days_written
-- CHANGE: your row's module here, as the last of these rows
set_option Elab.async false
set_option linter.all false
set_option maxRecDepth 100000
/-! THE HAND LAYER, for ints, bools, texts, own classes, LISTS and tuples (index, slices, in, append, pop ..), calls, loops. Paste it whole ahead of your own text; what your proof does not reach may be deleted. -/
namespace L2
open PySem PySem.Spec PyProof.Rows

/-- a key: an int or a str -/
abbrev Key := Sum Int Str
def keyIs : Key → Value → Bool
  | .inl k, v => Value.isInt k v
  | .inr x, v => Value.isStrOf x v
def keyH (w : World) : Key → Int
  | .inl k => hashInt k
  | .inr x => hashStr w x
theorem keyIs_shape : ∀ {k : Key} {v : Value}, keyIs k v = true → (∃ i t, k = Sum.inl i ∧ v = Value.int i t) ∨ (∃ x t, k = Sum.inr x ∧ v = Value.str x t)
  | .inl i, v, h => by
    obtain ⟨t, e⟩ := Value.isInt_shape (k := i) (v := v) h
    exact .inl ⟨i, t, rfl, e⟩
  | .inr x, v, h => by
    obtain ⟨t, e⟩ := Value.isStrOf_shape (x := x) (v := v) h
    exact .inr ⟨x, t, rfl, e⟩
theorem key_ll (a b : Int) : decide ((Sum.inl a : Key) = Sum.inl b) = (a == b) := by
  by_cases e : a = b
  · subst e; simp
  · have h : ¬ (Sum.inl a : Key) = Sum.inl b := fun q => e (Sum.inl.inj q)
    rw [decide_eq_false h]
    exact (beq_eq_false_iff_ne.mpr e).symm
theorem key_rr (a b : Str) : decide ((Sum.inr a : Key) = Sum.inr b) = decide (a = b) := by
  by_cases e : a = b
  · subst e; simp
  · have h : ¬ (Sum.inr a : Key) = Sum.inr b := fun q => e (Sum.inr.inj q)
    rw [decide_eq_false h, decide_eq_false e]
theorem key_lr (a : Int) (b : Str) : decide ((Sum.inl a : Key) = Sum.inr b) = false := decide_eq_false (fun q => nomatch q)
theorem key_rl (a : Str) (b : Int) : decide ((Sum.inr a : Key) = Sum.inl b) = false := decide_eq_false (fun q => nomatch q)

def mixKind (prog : Program) (w : World) : PySem.KeyKind prog w Key where
  is := keyIs
  hash := keyH w
  inj := fun v a b ha hb => by
    rcases keyIs_shape ha with ⟨i, t, rfl, rfl⟩ | ⟨x, t, rfl, rfl⟩
    · rcases keyIs_shape hb with ⟨j, u, rfl, e⟩ | ⟨y, u, rfl, e⟩
      · injection e with e1 _; rw [e1]
      · exact nomatch e
    · rcases keyIs_shape hb with ⟨j, u, rfl, e⟩ | ⟨y, u, rfl, e⟩
      · exact nomatch e
      · injection e with e1 _; rw [e1]
  byValue := fun k v h => by
    rcases keyIs_shape h with ⟨i, t, rfl, rfl⟩ | ⟨x, t, rfl, rfl⟩ <;> rfl
  pyHash := fun hv h => by
    rcases keyIs_shape hv with ⟨i, t, rfl, rfl⟩ | ⟨x, t, rfl, rfl⟩
    · exact wpAny_pyHash_int h
    · exact wpAny_pyHash_str h
  eqBool := fun hu hv h => by
    rcases keyIs_shape hu with ⟨i, t, rfl, rfl⟩ | ⟨x, t, rfl, rfl⟩
    · rcases keyIs_shape hv with ⟨j, u, rfl, rfl⟩ | ⟨y, u, rfl, rfl⟩
      · rw [key_ll] at h; exact wpAny_eqBool_int h
      · rw [key_lr] at h; exact SeqAt.EqAt.int_str i t y u _ _ _ _ h
    · rcases keyIs_shape hv with ⟨j, u, rfl, rfl⟩ | ⟨y, u, rfl, rfl⟩
      · rw [key_rl] at h; exact SeqAt.EqAt.str_int x t j u _ _ _ _ h
      · rw [key_rr] at h; exact wpAny_eqBool_str h
  «strs» := fun k x t v h => by
    rcases keyIs_shape h with ⟨i, u, rfl, e⟩ | ⟨y, u, rfl, e⟩
    · exact nomatch e
    · injection e with e1 _
      subst e1
      cases v <;> rfl

end L2

namespace L2
open PySem PySem.Spec PyProof.Rows

/-- a value, without the heap -/
inductive V where
  | non | bl (b : Bool) | int (i : Int) | str (x : Str) | byt (b : Array UInt8) | flt (b : UInt64) | ref (a : Addr) | ty (n : String)
  deriving DecidableEq

def RelV : V → Value → Prop
  | .non, u => u = Value.none
  | .bl b, u => u = Value.bool b
  | .int i, u => ∃ t, u = Value.int i t
  | .str x, u => ∃ t, u = Value.str x t
  | .byt b, u => ∃ t, u = Value.bytes b t
  | .flt b, u => ∃ t, u = Value.float b t
  | .ref a, u => u = Value.ref a
  | .ty n, u => u = Value.type n

abbrev Vals : List V → List Value → Prop := Paired RelV
theorem Vals.length {xs : List V} {us : List Value} (r : Vals xs us) : xs.length = us.length := Paired.length r
theorem Vals.get : ∀ {xs : List V} {us : List Value} {i : Nat} {x : V}, Vals xs us → xs[i]? = some x → ∃ u, us[i]? = some u ∧ RelV x u
  | _, _, _, _, .nil, e => by simp at e
  | _, _, 0, _, .cons r _, e => by simp at e; subst e; exact ⟨_, rfl, r⟩
  | _, _, i + 1, x, .cons _ t, e => by
    obtain ⟨u, h1, h2⟩ := Vals.get (i := i) (x := x) t (by simpa using e)
    exact ⟨u, by simpa using h1, h2⟩
theorem Vals.append : ∀ {xs ys : List V} {us ws : List Value}, Vals xs us → Vals ys ws → Vals (xs ++ ys) (us ++ ws)
  | _, _, _, _, .nil, s => s
  | _, _, _, _, .cons r t, s => .cons r (Vals.append t s)
theorem Vals.take : ∀ {xs : List V} {us : List Value} (n : Nat), Vals xs us → Vals (xs.take n) (us.take n)
  | _, _, 0, _ => .nil
  | _, _, _ + 1, .nil => .nil
  | _, _, n + 1, .cons r t => .cons r (Vals.take n t)
theorem Vals.drop : ∀ {xs : List V} {us : List Value} (n : Nat), Vals xs us → Vals (xs.drop n) (us.drop n)
  | _, _, 0, r => r
  | _, _, _ + 1, .nil => .nil
  | _, _, n + 1, .cons _ t => Vals.drop n t
def RelO : Option V → Option Value → Prop
  | some v, some u => RelV v u
  | none, none => True
  | _, _ => False
def KV {κ : Type} : List (κ × V) → List (κ × Value) → Prop := Paired fun (p : κ × V) (q : κ × Value) => p.1 = q.1 ∧ RelV p.2 q.2

/-- a key of a dict (00_mix): an int or a text -/
def kV : Key → V
  | .inl i => .int i
  | .inr x => .str x

/-- what stands at a tracked address -/
inductive HO where
  /-- a list -/
  | lst (xs : List V)
  /-- a tuple (never changes) -/
  | tup (xs : List V)
  /-- a dict whose keys are ints and texts; one whose keys are tuples of ints and texts (the empty one is both) -/
  | dK (kvs : List (Key × V)) | dT (kvs : List (List Key × V))
  /-- a set of ints: its members, its size -/
  | set (S : Int → Bool) (n : Nat)
  /-- an instance of the class at C, its dict at dx, its attributes -/
  | ins (C dx : Addr) (fs : List (Str × V))
  /-- the dict of the instance at x -/
  | own (x : Addr)
  /-- the dict of an exception -/
  | xd (fs : List (Str × V))
  /-- a bound method, f of x -/
  | met (f x : Addr)
  /-- a range object lo, lo + 1, .. below hi -/
  | rng (lo hi : Int)
  /-- a thing that is known to the object (the script; a dict while a loop walks it): read, never written while it is so -/
  | frz (o : Obj) (u : HO)
  /-- a code object's table -/
  | tbl (ps : Array Value)
  /-- any other thing, by what is true of its one object (a def of one's own: SetO a S n := HO.ext fun h => ..) -/
  | ext (φ : Heap → Prop)

abbrev Hp := Addr → Option HO
def upd (H : Hp) (a : Addr) (o : HO) : Hp := fun b => if b = a then some o else H b
theorem upd_same {H : Hp} {a : Addr} {o : HO} : upd H a o a = some o := by unfold upd; rw [if_pos rfl]
theorem upd_ne {H : Hp} {a b : Addr} {o : HO} (h : b ≠ a) : upd H a o b = H b := by unfold upd; rw [if_neg h]
theorem ne_of_none {H : Hp} {a b : Addr} {o : HO} (h : H a = some o) (h' : H b = none) : a ≠ b := by
  intro e; subst e; rw [h] at h'; cases h'

section
variable (P : Program) (w : World)
def ObjOk (H : Hp) (h : Heap) (a : Addr) : HO → Prop
  | .lst xs => xs.length ≤ sizeLine ∧ ∃ (its : List Value) (n : Nat), Vals xs its ∧ h.get? a = some { cls := .type "list", data := .seq its.toArray n }
  | .tup xs => xs.length ≤ sizeLine ∧ ∃ its : List Value, Vals xs its ∧ IsTup h a its.toArray
  | .dK kvs => kvs.length ≤ sizeLine ∧ (a == sysModules) = false ∧ ∃ vs, KV kvs vs ∧ h.DictOf (mixKind P w) a vs
  | .dT kvs => kvs.length ≤ sizeLine ∧ (a == sysModules) = false ∧ ∃ xs : List (List Key × Addr × Value),
      Paired (fun (p : List Key × V) (q : List Key × Addr × Value) => p.1 = q.1 ∧ H q.2.1 = some (.tup (p.1.map kV)) ∧ RelV p.2 q.2.2) kvs xs ∧
      ∃ o es ep, h.get? a = some o ∧ o.ExactDict ∧ o.data = .dict es ep ∧ es.toList = xs.map (entryOfKey (tupleKind (mixKind P w))) ∧ (xs.map (·.1)).Nodup
  | .set S n => h.SetOf (intKind P w) a S n
  | .ins C dx fs => H dx = some (.own a) ∧ fs.length ≤ 1000 ∧ dx ≠ a ∧ h.get? a = some (PySem.W.instObj C dx) ∧
      ∃ mA, h.Ns1 dx mA ∧ (∀ f, RelO (fs.lookup f) (mA f)) ∧ PySem.Within mA (fs.map (·.1))
  | .own _ => ∃ o, h.get? a = some o
  | .xd fs => ∃ mA, h.Ns1 a mA ∧ ∀ f, RelO (fs.lookup f) (mA f)
  | .rng lo hi => ∃ t u v, h.get? a = some { cls := .type "range", data := .fields #[.int lo t, .int hi u, .int 1 v] }
  | .frz o u => h.get? a = some o ∧ ObjOk H h a u
  | .tbl ps => h.get? a = some { cls := .none, data := .fields ps }
  | .met f x => h.get? a = some (PySem.W.methodObj (.ref f) (.ref x))
  | .ext φ => φ h ∧ (∃ o, h.get? a = some o) ∧ ∀ h1 h2 : Heap, φ h1 → (∀ o, h1.get? a = some o → h2.get? a = some o) → φ h2
/-- the abstract heap is held -/
def HOk (H : Hp) (h : Heap) : Prop := ∀ a o, H a = some o → ObjOk P w H h a o
end

section
variable {P : Program} {w : World} {H H' : Hp} {h h' : Heap} {a : Addr} {o : HO}
theorem ObjOk.lt (x : ObjOk P w H h a o) : a < h.objs.size := by
  cases o with
  | lst xs => obtain ⟨_, _, _, _, e⟩ := x; exact Heap.lt_size e
  | tup xs => obtain ⟨_, _, _, p⟩ := x; exact p.lt
  | dK kvs => obtain ⟨_, _, _, _, o, _, _, e, _⟩ := x; exact Heap.lt_size e
  | dT kvs => obtain ⟨_, _, _, _, o, _, _, e, _⟩ := x; exact Heap.lt_size e
  | set S n => obtain ⟨o, _, _, _, e, _⟩ := x; exact Heap.lt_size e
  | ins C dx fs => obtain ⟨_, _, _, e, _⟩ := x; exact Heap.lt_size e
  | own y => obtain ⟨_, e⟩ := x; exact Heap.lt_size e
  | xd fs => obtain ⟨_, ⟨_, _, _, e, _⟩, _⟩ := x; exact Heap.lt_size e
  | rng lo hi => obtain ⟨_, _, _, e⟩ := x; exact Heap.lt_size e
  | frz ob u => obtain ⟨e, _⟩ := x; exact Heap.lt_size e
  | tbl ps => exact Heap.lt_size (show h.get? a = some _ from x)
  | met f y => exact Heap.lt_size (show h.get? a = some _ from x)
  | ext φ => obtain ⟨_, ⟨_, e⟩, _⟩ := x; exact Heap.lt_size e
theorem Paired.mapP {α β : Type} {F G : α → β → Prop} : ∀ {l₁ : List α} {l₂ : List β}, Paired F l₁ l₂ → (∀ a b, F a b → G a b) → Paired G l₁ l₂
  | _, _, .nil, _ => .nil
  | _, _, .cons r t, f => .cons (f _ _ r) (Paired.mapP t f)
theorem Paired.imp' {α β : Type} {F G : α → β → Prop} (f : ∀ a b, F a b → G a b) {l₁ : List α} {l₂ : List β} (r : Paired F l₁ l₂) : Paired G l₁ l₂ := Paired.mapP r f
/-- what an object's description leans on: its own object, its own dict, the tuples -/
theorem ObjOk.stay (x : ObjOk P w H h a o) (k : ∀ b u, (b = a ∨ H b = some (.own a)) → h.get? b = some u → h'.get? b = some u)
    (ho : ∀ b, H b = some (.own a) → H' b = some (.own a)) (ht : ∀ b xs, H b = some (.tup xs) → H' b = some (.tup xs)) : ObjOk P w H' h' a o := by
  induction o with
  | lst xs => obtain ⟨z, its, n, r, e⟩ := x; exact ⟨z, its, n, r, k _ _ (.inl rfl) e⟩
  | tup xs => obtain ⟨z, its, r, ob, e, c⟩ := x; exact ⟨z, its, r, ob, k _ _ (.inl rfl) e, c⟩
  | dK kvs => obtain ⟨z, y, vs, r, ob, es, ep, e, c⟩ := x; exact ⟨z, y, vs, r, ob, es, ep, k _ _ (.inl rfl) e, c⟩
  | dT kvs =>
    obtain ⟨z, y, xs, r, ob, es, ep, e, c⟩ := x
    exact ⟨z, y, xs, Paired.mapP r fun p q z => ⟨z.1, ht _ _ z.2.1, z.2.2⟩, ob, es, ep, k _ _ (.inl rfl) e, c⟩
  | set S n => obtain ⟨ob, es, ep, t, e, c⟩ := x; exact ⟨ob, es, ep, t, k _ _ (.inl rfl) e, c⟩
  | ins C dx fs =>
    obtain ⟨d, z, ne, e, mA, ⟨od, es, ep, e2, c⟩, r⟩ := x
    exact ⟨ho _ d, z, ne, k _ _ (.inl rfl) e, mA, ⟨od, es, ep, k _ _ (.inr d) e2, c⟩, r⟩
  | own y => obtain ⟨ob, e⟩ := x; exact ⟨ob, k _ _ (.inl rfl) e⟩
  | xd fs => obtain ⟨mA, ⟨od, es, ep, e, c⟩, r⟩ := x; exact ⟨mA, ⟨od, es, ep, k _ _ (.inl rfl) e, c⟩, r⟩
  | rng lo hi => obtain ⟨t, u, v, e⟩ := x; exact ⟨t, u, v, k _ _ (.inl rfl) e⟩
  | frz ob u ih => obtain ⟨e, q⟩ := x; exact ⟨k _ _ (.inl rfl) e, ih q⟩
  | tbl ps =>
    have e : h.get? a = some { cls := .none, data := .fields ps } := x
    show h'.get? a = some { cls := .none, data := .fields ps }
    exact k a _ (.inl rfl) e
  | met f y =>
    have e : h.get? a = some (PySem.W.methodObj (.ref f) (.ref y)) := x
    show h'.get? a = some (PySem.W.methodObj (.ref f) (.ref y))
    exact k a _ (.inl rfl) e
  | ext φ => obtain ⟨p, ⟨o, e⟩, st⟩ := x; exact ⟨st _ _ p fun o q => k _ _ (.inl rfl) q, ⟨o, k _ _ (.inl rfl) e⟩, st⟩
theorem HOk.lt (x : HOk P w H h) (e : H a = some o) : a < h.objs.size := (x a o e).lt
theorem HOk.fresh (x : HOk P w H h) (e : h.objs.size ≤ a) : H a = none := by
  cases q : H a with
  | none => rfl
  | some u => exact absurd (Nat.lt_of_lt_of_le (x.lt q) e) (Nat.lt_irrefl _)
/-- every object of the heap is kept -/
theorem HOk.kept (x : HOk P w H h) (k : ∀ b u, h.get? b = some u → h'.get? b = some u) : HOk P w H h' := fun a o e =>
  (x a o e).stay (fun b u _ q => k b u q) (fun _ q => q) fun _ _ q => q
/-- a new object is laid and tracked -/
theorem HOk.laid (x : HOk P w H h) (k : ∀ b u, h.get? b = some u → h'.get? b = some u) (hp : h.objs.size ≤ a) (new : ObjOk P w (upd H a o) h' a o) : HOk P w (upd H a o) h' := fun b u e => by
  have hn := x.fresh hp
  by_cases hb : b = a
  · subst hb; rw [upd_same] at e; cases e; exact new
  · rw [upd_ne hb] at e
    exact (x b u e).stay (fun c v _ q => k c v q) (fun c q => by rw [upd_ne (ne_of_none q hn)]; exact q) fun c xs q => by rw [upd_ne (ne_of_none q hn)]; exact q
end

/-- what may be read as u: it is u, or a known u -/
def Rd (H : Hp) (a : Addr) (u : HO) : Prop := H a = some u ∨ ∃ o, H a = some (.frz o u)
theorem Rd.ok {P : Program} {w : World} {H : Hp} {h : Heap} {a : Addr} {u : HO} (r : Rd H a u) (x : HOk P w H h) : ObjOk P w H h a u := by
  rcases r with r | ⟨o, r⟩
  · exact x a u r
  · obtain ⟨_, q⟩ := x a _ r
    exact q
/-- what may be written -/
def Mut : Option HO → Prop
  | some (.lst _) => True
  | some (.dK _) => True
  | some (.dT _) => True
  | some (.set _ _) => True
  | some (.ins _ _ _) => True
  | some (.ext _) => True
  | _ => False
section
variable {P : Program} {w : World} {H : Hp} {h h' : Heap} {x e : Addr} {o' : HO}
/-- the object at e is changed: x itself, or the dict of the instance x -/
theorem HOk.write (ok : HOk P w H h) (mu : Mut (H x)) (he : e = x ∨ H e = some (.own x)) (k : ∀ b u, b ≠ e → h.get? b = some u → h'.get? b = some u) (heo : ∃ u, h'.get? e = some u)
    (new : ObjOk P w (upd H x o') h' x o') : HOk P w (upd H x o') h' := fun b u q => by
  have nown : ∀ c y, H c = some (.own y) → c ≠ x := fun c y r z => by subst z; rw [r] at mu; exact mu
  have ntup : ∀ c xs, H c = some (.tup xs) → c ≠ x := fun c xs r z => by subst z; rw [r] at mu; exact mu
  by_cases hb : b = x
  · subst hb; rw [upd_same] at q; cases q; exact new
  · rw [upd_ne hb] at q
    by_cases hbe : b = e
    · have q' : H b = some (.own x) := by
        rcases he with z | z
        · exact absurd (hbe.trans z) hb
        · rw [hbe]; exact z
      rw [q] at q'; cases q'
      obtain ⟨v, hv⟩ := heo
      exact ⟨v, by rw [hbe]; exact hv⟩
    · refine (ok b u q).stay (fun c v hc r => k c v ?_ r) (fun c r => by rw [upd_ne (nown c b r)]; exact r) fun c xs r => by rw [upd_ne (ntup c xs r)]; exact r
      rcases hc with rfl | hc
      · exact hbe
      · rintro rfl
        rcases he with z | z
        · exact nown c b hc z
        · rw [hc] at z; cases z; exact hb rfl
end

/-! ### kept unless tracked; of the frames at fs (the callers') the slots may change (an exception that passes writes there); of the records at ex (iterators) nothing is said -/
structure Un (fs ex : List Addr) (H H' : Hp) (h h' : Heap) : Prop where
  keep : ∀ b o, h.get? b = some o → H b = none → b ∉ fs → b ∉ ex → h'.get? b = some o
  slot : ∀ b o, h.get? b = some o → H b = none → b ∈ fs → b ∉ ex → ∃ sl, h'.get? b = some { o with slots := sl }
  free : ∀ b o, h.get? b = some o → H b = none → b ∉ ex → H' b = none
  there : ∀ b o, h.get? b = some o → b ∉ ex → ∃ o', h'.get? b = some o'
  tups : ∀ b xs, H b = some (.tup xs) → H' b = some (.tup xs)
  frzs : ∀ b o u, H b = some (.frz o u) → H' b = some (.frz o u)
  tbls : ∀ b ps, H b = some (.tbl ps) → ∃ more, H' b = some (.tbl (ps ++ more))
section
variable {fs fs' ex ex' : List Addr} {H H1 H2 : Hp} {h h1 h2 h' : Heap} {a x e : Addr} {o : HO}
theorem Un.any (u : Un fs ex H H1 h h1) {b : Addr} {ob : Obj} (q : h.get? b = some ob) (n : H b = none) (hx : b ∉ ex) : ∃ sl, h1.get? b = some { ob with slots := sl } := by
  by_cases hb : b ∈ fs
  · exact u.slot b ob q n hb hx
  · exact ⟨ob.slots, u.keep b ob q n hb hx⟩
theorem Un.kept (k : ∀ b u, h.get? b = some u → h'.get? b = some u) : Un fs ex H H h h' :=
  ⟨fun b ob q _ _ _ => k b ob q, fun b ob q _ _ _ => ⟨ob.slots, k b ob q⟩, fun _ _ _ n _ => n, fun b ob q _ => ⟨ob, k b ob q⟩, fun _ _ q => q, fun _ _ _ q => q, fun _ ps q => ⟨#[], by rw [q]; simp⟩⟩
theorem Un.refl : Un fs ex H H h h := Un.kept fun _ _ q => q
theorem Un.laid (k : ∀ b u, h.get? b = some u → h'.get? b = some u) (hp : h.objs.size ≤ a) (hn : H a = none) : Un fs ex H (upd H a o) h h' where
  keep := fun b u q _ _ _ => k b u q
  slot := fun b u q _ _ _ => ⟨u.slots, k b u q⟩
  free := fun b u q n _ => by rw [upd_ne (Nat.ne_of_lt (Nat.lt_of_lt_of_le (Heap.lt_size q) hp))]; exact n
  there := fun b u q _ => ⟨u, k b u q⟩
  tups := fun b xs q => by rw [upd_ne (ne_of_none q hn)]; exact q
  frzs := fun b u xs q => by rw [upd_ne (ne_of_none q hn)]; exact q
  tbls := fun b ps q => ⟨#[], by rw [upd_ne (ne_of_none q hn), q]; simp⟩
theorem Un.write (mu : Mut (H x)) (he : e = x ∨ H e = some (.own x)) (k : ∀ b u, b ≠ e → h.get? b = some u → h'.get? b = some u) (heo : ∃ u, h'.get? e = some u) : Un fs ex H (upd H x o) h h' := by
  have hx : ∀ b, H b = none → b ≠ x := fun b n z => by subst z; rw [n] at mu; exact mu
  have hb : ∀ b, H b = none → b ≠ e := fun b n z => by
    subst z
    rcases he with r | r
    · exact hx b n r
    · rw [n] at r; cases r
  have hm : ∀ b u, H b = some u → ¬ Mut (some u) → b ≠ x := fun b u q nm z => by subst z; rw [q] at mu; exact nm mu
  refine ⟨fun b u q n _ _ => k b u (hb b n) q, fun b u q n _ _ => ⟨u.slots, k b u (hb b n) q⟩, fun b u q n _ => by rw [upd_ne (hx b n)]; exact n, fun b u q _ => ?_,
    fun b xs q => by rw [upd_ne (hm b _ q fun z => z)]; exact q, fun b u xs q => by rw [upd_ne (hm b _ q fun z => z)]; exact q, fun b ps q => ⟨#[], by rw [upd_ne (hm b _ q fun z => z), q]; simp⟩⟩
  by_cases hbe : b = e
  · subst hbe; exact heo
  · exact ⟨u, k b u hbe q⟩
end

/-! ### the heap without what is tracked -/
def trk (h : Heap) (H : Hp) : List Addr := (List.range h.objs.size).filter fun a => (H a).isSome
def hidT (h : Heap) (H : Hp) : Heap := PySem.W.hideAll h (trk h H)
theorem hidT_size (h : Heap) (H : Hp) : (hidT h H).objs.size = h.objs.size := PySem.W.hideAll_size _ _
theorem hidT_get {h : Heap} {H : Hp} {b : Addr} {o : Obj} (e : h.get? b = some o) (n : H b = none) : (hidT h H).get? b = some o :=
  PySem.W.hideAll_get _ e fun hm => by
    have q : (H b).isSome = true := (List.mem_filter.mp hm).2
    rw [n] at q; simp at q
theorem of_hidT {h : Heap} {H : Hp} {b : Addr} {o : Obj} (e : (hidT h H).get? b = some o) : h.get? b = some o ∧ H b = none := by
  have e' : h.get? b = some o := PySem.W.of_hideAll (trk h H) e
  refine ⟨e', ?_⟩
  cases q : H b with
  | none => rfl
  | some x =>
    have hm : b ∈ trk h H := List.mem_filter.mpr ⟨List.mem_range.mpr (Heap.lt_size e'), by simp [q]⟩
    have z : (hidT h H).get? b = none := PySem.W.hideAll_none (trk h H) hm
    rw [z] at e; cases e

/-! ### OpenK's ledger, filled with every new object but one -/
def allNews (g h : Heap) (L : Addr) : List (Addr × Obj) := (List.range h.objs.size).filterMap fun a => if a = L ∨ (g.get? a).isSome = true then none else (h.get? a).map fun o => (a, o)
def rest (g h : Heap) (L d : Addr) : List (Addr × Obj) := (allNews g h L).filter fun p => decide (p.1 ≠ d)
end L2

namespace L2
open PySem PySem.Spec PyProof.Rows

/-- the module's facts, over the base: the heap at the law's entry without what is tracked there -/
structure Mod (K : PySem.W.Frag) (mg : Str → Option Value) (base : Heap) : Prop where
  kin : K.In base
  glob : base.Ns mainGlobals mg
  blt : ∃ mb, base.Ns builtinsNs mb ∧ ∀ x : Str, x ≠ "__name__" → mb x = bootBuiltins x
  nolimit : base.NoLimit

/-- the context: a def's body (or a comprehension's block) running. base: fixed through the whole law; s₀, H₀: the entry; outer: the frames whose slots others may change (a def's callers); stack: all frames that run;
   ex: iterators that were made ahead of the entry and are walked here (a comprehension's); fn: the names whose cells were made at the entry (a def: all; a comprehension's block: its own); calm: not within an except suite; pn: pins that every state bears; xe: what is wanted of an exception that leaves the code -/
structure Cx where
  prog : Program
  w : World
  K : PySem.W.Frag
  mg : Str → Option Value
  base : Heap
  A : Around
  N : List Str
  s₀ : Shared
  H₀ : Hp
  env : Env
  outer : List Env
  stack : List Env
  ex : List Addr
  fn : Str → Bool
  calm : Bool
  pn : List (Addr × Obj)
  xe : Value → Shared → Prop
/-- the callers' frames -/
def frs (l : List Env) : List Addr := l.filterMap (·.frame)
abbrev Cx.fs (X : Cx) : List Addr := frs X.outer

def Vis (sc : Scope) (x : Str) : Prop := sc.names.lookup x = some .local ∨ sc.names.lookup x = some .cell ∨ sc.names.lookup x = some .free
def Loc (sc : Scope) (x : Str) : Prop := sc.names.lookup x = some .local ∨ sc.names.lookup x = some .cell
def Look (env : Env) (h : Heap) (m : Str → Option Value) (x : Str) (u : Value) : Prop :=
  (env.kindOf x = some .local ∧ m x = some u) ∨ ((env.kindOf x = some .cell ∨ env.kindOf x = some .free) ∧ ∃ c, env.cells.lookup x = some c ∧ h.IsCell c (some u))

structure Cx.Ok (X : Cx) : Prop where
  mod : Mod X.K X.mg X.base
  kind : X.env.scope.kind = .function
  glob : X.env.globals = mainGlobals
  blt : X.env.builtins = builtinsNs
  above : X.s₀.heap.objs.size ≤ X.env.locals
  inj : ∀ x y c, X.env.cells.lookup x = some c → X.env.cells.lookup y = some c → x = y
  has : ∀ x, (X.env.kindOf x = some .cell ∨ X.env.kindOf x = some .free) → ∃ c, X.env.cells.lookup x = some c
  cab : ∀ x c, X.fn x = true → X.env.cells.lookup x = some c → X.s₀.heap.objs.size ≤ c
  hd : X.calm = true → X.A.handled = none
  frames : X.A.frames = some X.stack
  stk : X.stack = X.outer ∨ (X.stack = X.env :: X.outer ∧ X.env.frame = some X.env.locals)
  exf : ∀ b ∈ X.ex, b ≠ X.env.locals ∧ ∀ x c, X.env.cells.lookup x = some c → c ≠ b
  bs : ∀ b o, X.base.get? b = some o → X.s₀.heap.get? b = some o ∧ X.H₀ b = none
  bsz : X.base.objs.size ≤ X.s₀.heap.objs.size
  noex : ∀ b o, X.base.get? b = some o → b ∉ X.ex
  exfs : ∀ b ∈ X.ex, b ∉ X.fs
  funs : X.s₀.heap.FunFrames X.base X.outer
  frf : ∀ b ∈ X.fs, X.H₀ b = none

structure Inv (X : Cx) (pins : List (Addr × Obj)) (σ : List (Option V)) (H : Hp) (s : Shared) : Prop where
  ok : X.Ok
  os : s.os = X.s₀.os
  bare : AllBare s.gens
  base : Un X.fs X.ex X.H₀ H X.s₀.heap s.heap
  loc : ∃ m, s.heap.Ns X.env.locals m ∧ ∀ (i : Nat) (x : Str) (v : V), X.N[i]? = some x → σ[i]? = some (some v) → Vis X.env.scope x → ∃ u, RelV v u ∧ Look X.env s.heap m x u
  cell : ∀ x c, X.env.cells.lookup x = some c → ∃ v, s.heap.IsCell c v
  free : H X.env.locals = none
  freeC : ∀ x c, X.env.cells.lookup x = some c → H c = none
  pin : ∀ p ∈ X.pn ++ pins, s.heap.get? p.1 = some p.2 ∧ H p.1 = none ∧ p.1 ≠ X.env.locals ∧ p.1 ∉ X.fs ∧ ∀ v, p.2.data ≠ .cell v
  hok : HOk X.prog X.w H s.heap
  len : σ.length = X.N.length

section
variable {X : Cx} {pins : List (Addr × Obj)} {σ : List (Option V)} {H H' : Hp} {s : Shared} {h' : Heap}

theorem Cx.Ok.nofr (ok : X.Ok) {b : Addr} {o : Obj} (e : X.base.get? b = some o) : b ∉ X.fs := fun hb => by
  have := (ok.funs.mem hb).1
  rw [e] at this; cases this
theorem Inv.bs (I : Inv X pins σ H s) : ∀ b o, X.base.get? b = some o → s.heap.get? b = some o ∧ H b = none := fun b o e =>
  ⟨I.base.keep b o (I.ok.bs b o e).1 (I.ok.bs b o e).2 (I.ok.nofr e) (I.ok.noex b o e), I.base.free b o (I.ok.bs b o e).1 (I.ok.bs b o e).2 (I.ok.noex b o e)⟩
theorem Inv.bk (I : Inv X pins σ H s) : ∀ b o, X.base.get? b = some o → s.heap.get? b = some o := fun b o e => (I.bs b o e).1
theorem Inv.mod (I : Inv X pins σ H s) : Mod X.K X.mg X.base := I.ok.mod
theorem Inv.kIn (I : Inv X pins σ H s) : X.K.In s.heap := I.ok.mod.kin.keeps I.bk
theorem Inv.lt (I : Inv X pins σ H s) : X.env.locals < s.heap.objs.size := let ⟨_, hn, _⟩ := I.loc; hn.lt
theorem Inv.sz (I : Inv X pins σ H s) : X.s₀.heap.objs.size ≤ s.heap.objs.size := Nat.le_trans I.ok.above (Nat.le_of_lt I.lt)
theorem Inv.nofs (I : Inv X pins σ H s) {a : Addr} (h : s.heap.objs.size ≤ a) : a ∉ X.fs := fun hb => by
  obtain ⟨_, o, ho, _⟩ := I.ok.funs.mem hb
  exact absurd (Nat.lt_of_lt_of_le (Heap.lt_size ho) (Nat.le_trans I.sz h)) (Nat.lt_irrefl _)
theorem Inv.cne (I : Inv X pins σ H s) : ∀ x c, X.env.cells.lookup x = some c → c ≠ X.env.locals := fun x c e z => by
  obtain ⟨v, o, ho, hd⟩ := I.cell x c e
  obtain ⟨m, ⟨o', es, ep, ho', hd', _⟩, _⟩ := I.loc
  rw [z, ho'] at ho; cases ho; rw [hd'] at hd; cases hd
theorem Inv.funs (I : Inv X pins σ H s) : s.heap.FunFrames X.base X.outer := by
  have all : ∀ (l : List Env), (∀ b ∈ frs l, b ∈ X.fs) → X.s₀.heap.FunFrames X.base l → s.heap.FunFrames X.base l := by
    intro l
    induction l with
    | nil => intro _ _; trivial
    | cons env r ih =>
      intro hs hl
      obtain ⟨hk, ⟨L, o, hf, hn, ho, hd⟩, hr⟩ := hl
      have hL : L ∈ X.fs := hs L (by unfold frs; rw [List.filterMap_cons, hf]; exact List.mem_cons_self)
      obtain ⟨sl, e⟩ := I.base.slot L o ho (I.ok.frf L hL) hL fun z => I.ok.exfs L z hL
      exact ⟨hk, ⟨L, _, hf, hn, e, hd⟩, ih (fun b hb => hs b (by unfold frs; rw [List.filterMap_cons, hf]; exact List.mem_cons_of_mem _ hb)) hr⟩
  exact all X.outer (fun _ hb => hb) I.ok.funs

/-- the frames that run, for a call -/
theorem Inv.stack (I : Inv X pins σ H s) : s.heap.FunFrames X.base X.stack := by
  rcases I.ok.stk with e | ⟨e, hf⟩
  · rw [e]; exact I.funs
  · rw [e]
    obtain ⟨m, hn, _⟩ := I.loc
    refine .cons (by rw [I.ok.kind]; decide) hf hn ?_ I.funs
    exact Heap.get?_none_of_le (Nat.le_trans I.ok.bsz I.ok.above)
theorem Inv.stkSub (I : Inv X pins σ H s) : ∀ b ∈ frs X.stack, b ∈ X.env.locals :: X.fs := fun b hb => by
  rcases I.ok.stk with e | ⟨e, hf⟩
  · rw [e] at hb; exact List.mem_cons_of_mem _ hb
  · rw [e] at hb
    unfold frs at hb
    rw [List.filterMap_cons, hf] at hb
    exact hb
theorem Inv.stkFree (I : Inv X pins σ H s) : ∀ b ∈ frs X.stack, H b = none := fun b hb => by
  rcases List.mem_cons.mp (I.stkSub b hb) with e | hb
  · rw [e]; exact I.free
  · obtain ⟨_, o, ho, _⟩ := I.ok.funs.mem hb
    exact I.base.free b o ho (I.ok.frf b hb) fun z => I.ok.exfs b z hb

/-- THE STEP: the untracked objects but the frame and the records at ch are kept (the callers' frames up to slots), the frame's map is kept, the new abstract heap is held -/
theorem Inv.step {g' : Array GenState} {t' : Nat} {d' : Drawn} {ch : List Addr} (I : Inv X pins σ H s)
    (hch : ∀ b ∈ ch, (b ∈ X.ex ∨ X.s₀.heap.objs.size ≤ b) ∧ b ≠ X.env.locals ∧ (∀ x c, X.env.cells.lookup x = some c → c ≠ b) ∧ ∀ p ∈ X.pn ++ pins, p.1 ≠ b)
    (keep : ∀ b o, b ≠ X.env.locals → b ∉ X.fs → b ∉ ch → s.heap.get? b = some o → H b = none → h'.get? b = some o)
    (slot : ∀ b o, b ≠ X.env.locals → b ∈ X.fs → b ∉ ch → s.heap.get? b = some o → H b = none → ∃ sl, h'.get? b = some { o with slots := sl }) (free : ∀ b o, b ∉ ch → s.heap.get? b = some o → H b = none → H' b = none)
    (there : ∀ b o, b ∉ ch → s.heap.get? b = some o → ∃ o', h'.get? b = some o')
    (tups : ∀ b xs, H b = some (.tup xs) → H' b = some (.tup xs)) (frzs : ∀ b o u, H b = some (.frz o u) → H' b = some (.frz o u)) (tbls : ∀ b ps, H b = some (.tbl ps) → ∃ more, H' b = some (.tbl (ps ++ more)))
    (ns : ∀ m, s.heap.Ns X.env.locals m → h'.Ns X.env.locals m) (hok : HOk X.prog X.w H' h') (hg : AllBare g') :
    Inv X pins σ H' { s with heap := h', gens := g', drawn := d', toks := t' } := by
  have neL : ∀ b o, X.s₀.heap.get? b = some o → b ≠ X.env.locals := fun b o e => Nat.ne_of_lt (Nat.lt_of_lt_of_le (Heap.lt_size e) I.ok.above)
  have neC : ∀ b o, X.s₀.heap.get? b = some o → b ∉ X.ex → b ∉ ch := fun b o e hx hb => by
    rcases (hch b hb).1 with z | z
    · exact hx z
    · exact absurd (Nat.lt_of_lt_of_le (Heap.lt_size e) z) (Nat.lt_irrefl _)
  have cellK : ∀ x c, X.env.cells.lookup x = some c → ∀ v, s.heap.IsCell c v → h'.IsCell c v := fun x c e v ⟨o, ho, hd⟩ => by
    have nch : c ∉ ch := fun z => (hch c z).2.2.1 x c e rfl
    by_cases hc : c ∈ X.fs
    · obtain ⟨sl, q⟩ := slot c o (I.cne x c e) hc nch ho (I.freeC x c e)
      exact ⟨_, q, hd⟩
    · exact ⟨o, keep c o (I.cne x c e) hc nch ho (I.freeC x c e), hd⟩
  refine ⟨I.ok, I.os, hg, ⟨fun b o e n hb hx => ?_, fun b o e n hb hx => ?_, fun b o e n hx => ?_, fun b o e hx => ?_, fun b xs e => tups b xs (I.base.tups b xs e), fun b o xs e => frzs b o xs (I.base.frzs b o xs e), fun b ps e => ?_⟩, ?_, fun x c e => ?_, ?_, fun x c e => ?_, fun p hp => ?_, hok, I.len⟩
  · exact keep b o (neL b o e) hb (neC b o e hx) (I.base.keep b o e n hb hx) (I.base.free b o e n hx)
  · obtain ⟨sl, e1⟩ := I.base.slot b o e n hb hx
    obtain ⟨sl', e2⟩ := slot b _ (neL b o e) hb (neC b o e hx) e1 (I.base.free b o e n hx)
    exact ⟨sl', e2⟩
  · obtain ⟨o', e1⟩ := I.base.there b o e hx
    exact free b o' (neC b o e hx) e1 (I.base.free b o e n hx)
  · obtain ⟨o', e1⟩ := I.base.there b o e hx
    exact there b o' (neC b o e hx) e1
  · obtain ⟨m1, e1⟩ := I.base.tbls b ps e
    obtain ⟨m2, e2⟩ := tbls b _ e1
    exact ⟨m1 ++ m2, by rw [e2, Array.append_assoc]⟩
  · obtain ⟨m, hn, hl⟩ := I.loc
    refine ⟨m, ns m hn, fun i x v e1 e2 e3 => ?_⟩
    obtain ⟨u, r, l⟩ := hl i x v e1 e2 e3
    refine ⟨u, r, ?_⟩
    rcases l with l | ⟨k, c, e, z⟩
    · exact .inl l
    · exact .inr ⟨k, c, e, cellK x c e _ z⟩
  · obtain ⟨v, z⟩ := I.cell x c e
    exact ⟨v, cellK x c e v z⟩
  · obtain ⟨m, ⟨o, _, _, ho, _⟩, _⟩ := I.loc
    exact free _ o (fun z => (hch _ z).2.1 rfl) ho I.free
  · obtain ⟨v, o, ho, hd⟩ := I.cell x c e
    exact free c o (fun z => (hch c z).2.2.1 x c e rfl) ho (I.freeC x c e)
  · obtain ⟨e, n, ne, nf, d⟩ := I.pin p hp
    have nch : p.1 ∉ ch := fun z => (hch p.1 z).2.2.2 p hp rfl
    exact ⟨keep p.1 p.2 ne nf nch e n, free p.1 p.2 nch e n, ne, nf, d⟩
/-- .. where the frame's own object is kept too -/
theorem Inv.un {t' : Nat} (I : Inv X pins σ H s) (u : Un X.fs [] H H' s.heap h') (hok : HOk X.prog X.w H' h') : Inv X pins σ H' { s with heap := h', toks := t' } := by
  obtain ⟨m, ⟨o, es, ep, ho, r⟩, _⟩ := id I.loc
  obtain ⟨sl, hL⟩ := u.any ho I.free (by simp)
  exact I.step (g' := s.gens) (d' := s.drawn) (ch := []) (fun _ z => nomatch z) (fun b o _ hb _ e n => u.keep b o e n hb (by simp)) (fun b o _ hb _ e n => u.slot b o e n hb (by simp)) (fun b o _ e n => u.free b o e n (by simp)) (fun b o _ e => u.there b o e (by simp)) u.tups u.frzs u.tbls (fun m' hm => by
    obtain ⟨o', es', ep', ho', r'⟩ := hm
    rw [ho] at ho'; cases ho'
    exact ⟨_, es', ep', hL, r'⟩) hok I.bare
/-- behind a call (or a comprehension's block): the slots of this frame may have changed too, the records at ch may have turned -/
theorem Inv.call {g' : Array GenState} {t' : Nat} {d' : Drawn} {ch : List Addr} (I : Inv X pins σ H s) (u : Un (frs X.stack) ch H H' s.heap h') (hok : HOk X.prog X.w H' h') (hg : AllBare g')
    (hch : ∀ b ∈ ch, (b ∈ X.ex ∨ X.s₀.heap.objs.size ≤ b) ∧ b ≠ X.env.locals ∧ (∀ x c, X.env.cells.lookup x = some c → c ≠ b) ∧ ∀ p ∈ X.pn ++ pins, p.1 ≠ b) :
    Inv X pins σ H' { s with heap := h', gens := g', drawn := d', toks := t' } := by
  obtain ⟨m, ⟨o, es, ep, ho, r⟩, _⟩ := id I.loc
  obtain ⟨sl, hL⟩ := u.any ho I.free fun z => (hch _ z).2.1 rfl
  exact I.step (ch := ch) hch (fun b o hL hb hc e n => u.keep b o e n (fun z => (List.mem_cons.mp (I.stkSub b z)).elim hL hb) hc) (fun b o _ _ hc e n => u.any e n hc) (fun b o hc e n => u.free b o e n hc) (fun b o hc e => u.there b o e hc) u.tups u.frzs u.tbls (fun m' hm => by
    obtain ⟨o', es', ep', ho', r'⟩ := hm
    rw [ho] at ho'; cases ho'
    exact ⟨_, es', ep', hL, r'⟩) hok hg
/-- an untracked record of ours (an iterator) has turned -/
theorem Inv.turned {t' : Nat} {it : Addr} (I : Inv X pins σ H s) (k : ∀ b o, b ≠ it → s.heap.get? b = some o → h'.get? b = some o) (hn : H it = none) (hL : it ≠ X.env.locals)
    (h1 : it ∈ X.ex ∨ X.s₀.heap.objs.size ≤ it) (h2 : ∀ x c, X.env.cells.lookup x = some c → c ≠ it) (h3 : ∀ p ∈ X.pn ++ pins, p.1 ≠ it) : Inv X pins σ H { s with heap := h', toks := t' } := by
  have nit : ∀ b u, H b = some u → b ≠ it := fun b u e z => by rw [z, hn] at e; cases e
  refine I.step (g' := s.gens) (d' := s.drawn) (ch := [it]) (fun b hb => ?_) (fun b o _ _ hc e _ => k b o (fun z => hc (by simp [z])) e) (fun b o _ _ hc e _ => ⟨o.slots, k b o (fun z => hc (by simp [z])) e⟩) (fun _ _ _ _ n => n)
    (fun b o hc e => ⟨o, k b o (fun z => hc (by simp [z])) e⟩) (fun _ _ e => e) (fun _ _ _ e => e) (fun b ps e => ⟨#[], by rw [e]; simp⟩) (fun m hm => ?_) (fun b u e => ?_) I.bare
  · have e : b = it := by simpa using hb
    subst e
    exact ⟨h1, hL, h2, h3⟩
  · obtain ⟨o, es, ep, ho, r⟩ := hm
    exact ⟨o, es, ep, k _ o (Ne.symm hL) ho, r⟩
  · refine (I.hok b u e).stay (fun c v hc q => k c v ?_ q) (fun _ q => q) fun _ _ q => q
    rcases hc with z | z
    · rw [z]; exact nit b u e
    · exact nit c _ z
theorem Inv.tok (I : Inv X pins σ H s) (t : Nat) : Inv X pins σ H { s with toks := t } := I.un (h' := s.heap) (t' := t) Un.refl I.hok
/-- all objects kept -/
theorem Inv.kept {t' : Nat} (I : Inv X pins σ H s) (k : ∀ b u, s.heap.get? b = some u → h'.get? b = some u) : Inv X pins σ H { s with heap := h', toks := t' } := I.un (Un.kept k) (I.hok.kept k)
/-- a new object laid and tracked -/
theorem Inv.laid {a : Addr} {o : HO} {t' : Nat} (I : Inv X pins σ H s) (k : ∀ b u, s.heap.get? b = some u → h'.get? b = some u) (hp : s.heap.objs.size ≤ a) (new : ObjOk X.prog X.w (upd H a o) h' a o) :
    Inv X pins σ (upd H a o) { s with heap := h', toks := t' } := I.un (Un.laid k hp (I.hok.fresh hp)) (I.hok.laid k hp new)
/-- an object written -/
theorem Inv.write {x e : Addr} {o : HO} {t' : Nat} (I : Inv X pins σ H s) (mu : Mut (H x)) (he : e = x ∨ H e = some (.own x)) (k : ∀ b u, b ≠ e → s.heap.get? b = some u → h'.get? b = some u) (heo : ∃ u, h'.get? e = some u)
    (new : ObjOk X.prog X.w (upd H x o) h' x o) : Inv X pins σ (upd H x o) { s with heap := h', toks := t' } := I.un (Un.write mu he k heo) (I.hok.write mu he k heo new)
/-- forgetting slots, pins -/
theorem Inv.weak {σ' : List (Option V)} (I : Inv X pins σ H s) (hl : σ'.length = σ.length) (w : ∀ (i : Nat) v, σ'[i]? = some (some v) → σ[i]? = some (some v)) : Inv X pins σ' H s :=
  ⟨I.ok, I.os, I.bare, I.base, let ⟨m, hn, hl'⟩ := I.loc; ⟨m, hn, fun i x v e1 e2 e3 => hl' i x v e1 (w i v e2) e3⟩, I.cell, I.free, I.freeC, I.pin, I.hok, hl.trans I.len⟩
theorem Inv.pins_of {pins' : List (Addr × Obj)} (I : Inv X pins σ H s) (h : ∀ p ∈ pins', s.heap.get? p.1 = some p.2 ∧ H p.1 = none ∧ p.1 ≠ X.env.locals ∧ p.1 ∉ X.fs ∧ ∀ v, p.2.data ≠ .cell v) : Inv X pins' σ H s :=
  ⟨I.ok, I.os, I.bare, I.base, I.loc, I.cell, I.free, I.freeC, fun p hp => (List.mem_append.mp hp).elim (fun z => I.pin p (List.mem_append_left _ z)) (h p), I.hok, I.len⟩

theorem nodup_ix {N : List Str} (hN : N.Nodup) {i j : Nat} {x : Str} (a : N[i]? = some x) (b : N[j]? = some x) : i = j := by
  obtain ⟨h1, e1⟩ := List.getElem?_eq_some_iff.mp a
  obtain ⟨h2, e2⟩ := List.getElem?_eq_some_iff.mp b
  exact (List.getElem_inj hN).mp (e1.trans e2.symm)

/-- a name is stored; what changed -/
theorem store_ok2 {M : Model} {A : Around} {E : Value → Shared → Prop} {i : Nat} {x : Str} {v : V} {u : Value} {Q : Unit → Shared → Prop} (I : Inv X pins σ H s) (hN : X.N.Nodup) (hi : X.N[i]? = some x) (hx : Loc X.env.scope x) (r : RelV v u)
    (h : ∀ s', Inv X pins (σ.set i (some v)) H s' → (∃ a, Heap.SameBut a s.heap s'.heap ∧ (a = X.env.locals ∨ X.env.cells.lookup x = some a)) → Q () s') (hf : X.fn x = true ∨ X.env.scope.names.lookup x = some .local := by first | exact .inl rfl | exact .inr rfl | assumption) : wpAny M A (storeName X.env x u) Q E s := by
  obtain ⟨m, hn, hl⟩ := id I.loc
  have hcls : (X.env.scope.kind == .class || (X.env.scope.kind == .module && X.env.locals != X.env.globals)) = false := by rw [I.ok.kind]; rfl
  have hiσ : i < σ.length := by rw [I.len]; exact (List.getElem?_eq_some_iff.mp hi).1
  have cne := I.cne
  have tracked : ∀ {a : Addr} {h' : Heap}, (∃ o, s.heap.get? a = some o ∧ H a = none) → Heap.SameBut a s.heap h' → HOk X.prog X.w H h' := fun {a h'} ha hs b ob e => by
    obtain ⟨_, _, hfree⟩ := ha
    refine (I.hok b ob e).stay (fun c w' hc q => (hs.2 c ?_).trans q) (fun _ q => q) fun _ _ q => q
    rintro rfl
    rcases hc with rfl | hc
    · rw [hfree] at e; cases e
    · rw [hfree] at hc; cases hc
  rcases hx with hk | hk
  · refine wpAny_storeName_local hk hn (fun h' hn' hs => ?_) hcls
    obtain ⟨oL, _, _, hoL, _⟩ := id hn
    refine h _ ⟨I.ok, I.os, I.bare, ⟨fun b o e n hb hx => ?_, fun b o e n hb hx => ?_, I.base.free, fun b o e hx => ?_, I.base.tups, I.base.frzs, I.base.tbls⟩, ⟨_, hn', fun j y v' e1 e2 e3 => ?_⟩, fun y c e => ?_, I.free, I.freeC, fun p hp => ?_, tracked ⟨oL, hoL, I.free⟩ hs, by simpa using I.len⟩ ⟨_, hs, .inl rfl⟩
    · exact (hs.2 b (Nat.ne_of_lt (Nat.lt_of_lt_of_le (Heap.lt_size e) I.ok.above))).trans (I.base.keep b o e n hb hx)
    · obtain ⟨sl, e1⟩ := I.base.slot b o e n hb hx
      exact ⟨sl, (hs.2 b (Nat.ne_of_lt (Nat.lt_of_lt_of_le (Heap.lt_size e) I.ok.above))).trans e1⟩
    · obtain ⟨o', e1⟩ := I.base.there b o e hx
      exact ⟨o', (hs.2 b (Nat.ne_of_lt (Nat.lt_of_lt_of_le (Heap.lt_size e) I.ok.above))).trans e1⟩
    · by_cases hj : j = i
      · subst hj
        rw [hi] at e1; cases e1
        rw [List.getElem?_set_self hiσ] at e2
        cases e2
        exact ⟨u, r, .inl ⟨hk, by simp⟩⟩
      · rw [List.getElem?_set_ne (Ne.symm hj)] at e2
        obtain ⟨u', r', q⟩ := hl j y v' e1 e2 e3
        refine ⟨u', r', ?_⟩
        rcases q with ⟨k, e⟩ | ⟨k, c, e, z⟩
        · refine .inl ⟨k, ?_⟩
          have : y ≠ x := fun e => hj (nodup_ix hN e1 (e ▸ hi))
          simp [this, e]
        · exact .inr ⟨k, c, e, z.sameBut hs (cne y c e)⟩
    · obtain ⟨w', z⟩ := I.cell y c e
      exact ⟨w', z.sameBut hs (cne y c e)⟩
    · obtain ⟨e, n, ne, nf, d⟩ := I.pin p hp
      exact ⟨(hs.2 p.1 ne).trans e, n, ne, nf, d⟩
  · have hfn : X.fn x = true := by
      rcases hf with z | z
      · exact z
      · rw [z] at hk; cases hk
    obtain ⟨c, hc⟩ := I.ok.has x (.inl hk)
    obtain ⟨w', z⟩ := I.cell x c hc
    refine wpAny_storeName_cell I.ok.kind hk hc z (fun h' hc' hs => ?_)
    obtain ⟨oc, hoc, hocd⟩ := id z
    refine h { s with heap := h' } ⟨I.ok, I.os, I.bare, ⟨fun b o e n hb hx => ?_, fun b o e n hb hx => ?_, I.base.free, fun b o e hx => ?_, I.base.tups, I.base.frzs, I.base.tbls⟩, ⟨m, hn.sameBut hs (Ne.symm (cne x c hc)), fun j y v' e1 e2 e3 => ?_⟩, fun y c' e => ?_, I.free, I.freeC, fun p hp => ?_, tracked ⟨oc, hoc, I.freeC x c hc⟩ hs, by simpa using I.len⟩ ⟨c, hs, .inr hc⟩
    · exact (hs.2 b (Nat.ne_of_lt (Nat.lt_of_lt_of_le (Heap.lt_size e) (I.ok.cab x c hfn hc)))).trans (I.base.keep b o e n hb hx)
    · obtain ⟨sl, e1⟩ := I.base.slot b o e n hb hx
      exact ⟨sl, (hs.2 b (Nat.ne_of_lt (Nat.lt_of_lt_of_le (Heap.lt_size e) (I.ok.cab x c hfn hc)))).trans e1⟩
    · obtain ⟨o', e1⟩ := I.base.there b o e hx
      exact ⟨o', (hs.2 b (Nat.ne_of_lt (Nat.lt_of_lt_of_le (Heap.lt_size e) (I.ok.cab x c hfn hc)))).trans e1⟩
    · by_cases hj : j = i
      · subst hj
        rw [hi] at e1; cases e1
        rw [List.getElem?_set_self hiσ] at e2
        cases e2
        exact ⟨u, r, .inr ⟨.inl hk, c, hc, hc'⟩⟩
      · rw [List.getElem?_set_ne (Ne.symm hj)] at e2
        obtain ⟨u', r', q⟩ := hl j y v' e1 e2 e3
        refine ⟨u', r', ?_⟩
        rcases q with q | ⟨k, c', e, z'⟩
        · exact .inl q
        · refine .inr ⟨k, c', e, z'.sameBut hs ?_⟩
          rintro rfl
          exact hj (nodup_ix hN e1 (I.ok.inj _ _ _ e hc ▸ hi))
    · by_cases hcc : c' = c
      · subst hcc; exact ⟨_, hc'⟩
      · obtain ⟨w2, z2⟩ := I.cell y c' e
        exact ⟨w2, z2.sameBut hs hcc⟩
    · obtain ⟨e, n, ne, nf, d⟩ := I.pin p hp
      refine ⟨(hs.2 p.1 ?_).trans e, n, ne, nf, d⟩
      intro q
      rw [q, hoc] at e
      have q' : oc = p.2 := Option.some.inj e
      exact d w' (by rw [← q']; exact hocd)
theorem store_ok {M : Model} {A : Around} {E : Value → Shared → Prop} {i : Nat} {x : Str} {v : V} {u : Value} {Q : Unit → Shared → Prop} (I : Inv X pins σ H s) (hN : X.N.Nodup) (hi : X.N[i]? = some x) (hx : Loc X.env.scope x) (r : RelV v u)
    (h : ∀ s', Inv X pins (σ.set i (some v)) H s' → Q () s') (hf : X.fn x = true ∨ X.env.scope.names.lookup x = some .local := by first | exact .inl rfl | exact .inr rfl | assumption) : wpAny M A (storeName X.env x u) Q E s :=
  store_ok2 I hN hi hx r (fun s' I' _ => h s' I') hf
/-- behind a call or a block, the state as it is -/
theorem Inv.call' {s' : Shared} {ch : List Addr} (I : Inv X pins σ H s) (ho : s'.os = s.os) (u : Un (frs X.stack) ch H H' s.heap s'.heap) (hok : HOk X.prog X.w H' s'.heap) (hg : AllBare s'.gens)
    (hch : ∀ b ∈ ch, (b ∈ X.ex ∨ X.s₀.heap.objs.size ≤ b) ∧ b ≠ X.env.locals ∧ (∀ x c, X.env.cells.lookup x = some c → c ≠ b) ∧ ∀ p ∈ X.pn ++ pins, p.1 ≠ b) : Inv X pins σ H' s' := by
  obtain ⟨h', g', d', t', o'⟩ := s'
  have e : o' = s.os := ho
  subst e
  exact I.call (g' := g') (t' := t') (d' := d') u hok hg hch
end

/-! ### the judgements -/
/-- an exception: its class, its own dict's address (where it has one), the abstract heap behind it -/
abbrev XK := Value → Option Addr → Hp → Prop
abbrev St := List (Option V)
abbrev VK := V → Hp → Prop
/-- an expression's reading; a test's; an argument list's -/
abbrev TE := St → Hp → VK → Prop
abbrev TT := St → Hp → (Bool → Hp → Prop) → Prop
abbrev TA := St → Hp → (List V → Hp → Prop) → Prop
/-- what is wanted behind a statement -/
structure Ends where
  nx : St → Hp → Prop
  rt : VK
  bk : St → Hp → Prop := fun _ _ => False
  ct : St → Hp → Prop := fun _ _ => False
abbrev TS := Ends → St → Hp → Prop

def EP (X : Cx) (pins : List (Addr × Obj)) (σ : St) (Q : VK) (u : Value) (s' : Shared) : Prop := ∃ v H', Inv X pins σ H' s' ∧ RelV v u ∧ Q v H'
def TP (X : Cx) (pins : List (Addr × Obj)) (σ : St) (Q : Bool → Hp → Prop) (b : Bool) (s' : Shared) : Prop := ∃ H', Inv X pins σ H' s' ∧ Q b H'
def AP (X : Cx) (pins : List (Addr × Obj)) (σ : St) (Q : List V → Hp → Prop) (us : List Value) (s' : Shared) : Prop := ∃ vs H', Inv X pins σ H' s' ∧ Vals vs us ∧ Q vs H'
def SP (X : Cx) (pins : List (Addr × Obj)) (D : Ends) (f : Flow) (s' : Shared) : Prop :=
  match f with
  | .next => ∃ σ' H', Inv X pins σ' H' s' ∧ D.nx σ' H'
  | .brk => ∃ σ' H', Inv X pins σ' H' s' ∧ D.bk σ' H'
  | .cont => ∃ σ' H', Inv X pins σ' H' s' ∧ D.ct σ' H'
  | .ret u => ∃ v σ' H', Inv X pins σ' H' s' ∧ RelV v u ∧ D.rt v H'

def PE (X : Cx) (e : Expr) (t : TE) : Prop :=
  ∀ (pins : List (Addr × Obj)) (s : Shared) (σ : St) (H : Hp) (Q : VK), Inv X pins σ H s → t σ H Q → wpAny (model X.prog X.w) X.A (eval e X.env) (EP X pins σ Q) X.xe s
def PT (X : Cx) (e : Expr) (t : TT) : Prop :=
  ∀ (pins : List (Addr × Obj)) (s : Shared) (σ : St) (H : Hp) (Q : Bool → Hp → Prop), Inv X pins σ H s → t σ H Q → wpAny (model X.prog X.w) X.A (isTrue e X.env (eval e X.env)) (TP X pins σ Q) X.xe s
/-- a test whatever its 'whole' is (and, or) -/
def PW (X : Cx) (e : Expr) (t : TT) : Prop :=
  ∀ (whole : Sem Value) (pins : List (Addr × Obj)) (s : Shared) (σ : St) (H : Hp) (Q : Bool → Hp → Prop), Inv X pins σ H s → t σ H Q → wpAny (model X.prog X.w) X.A (isTrue e X.env whole) (TP X pins σ Q) X.xe s
theorem PW.pt {X : Cx} {e : Expr} {t : TT} (h : PW X e t) : PT X e t := h _
/-- an argument list (no star), from the left -/
def PA (X : Cx) (es : List Expr) (t : TA) : Prop :=
  ∀ (pos : Pos) (pins : List (Addr × Obj)) (s : Shared) (σ : St) (H : Hp) (Q : List V → Hp → Prop), Inv X pins σ H s → t σ H Q → wpAny (model X.prog X.w) X.A (spliced (backTo pos (starEach es X.env))) (AP X pins σ Q) X.xe s
def PS (X : Cx) (st : Stmt) (t : TS) : Prop :=
  ∀ (pins : List (Addr × Obj)) (s : Shared) (σ : St) (H : Hp) (D : Ends), Inv X pins σ H s → t D σ H → wpAny (model X.prog X.w) X.A (exec st X.env) (SP X pins D) X.xe s
def PSs (X : Cx) (st : List Stmt) (t : TS) : Prop :=
  ∀ (pins : List (Addr × Obj)) (s : Shared) (σ : St) (H : Hp) (D : Ends), Inv X pins σ H s → t D σ H → wpAny (model X.prog X.w) X.A (execs st X.env) (SP X pins D) X.xe s
/-- weaken the end -/
theorem thn {α : Type} {t : Sem α} {Q Q' : α → Shared → Prop} {M : Model} {A : Around} {E : Value → Shared → Prop} {s : Shared} (h : wpAny M A t Q E s) (hQ : ∀ a s, Q a s → Q' a s) : wpAny M A t Q' E s := wpAny_mono h hQ fun _ _ x => x
end L2

namespace L2
open PySem PySem.Spec PyProof.Rows
section
variable {X : Cx}

/-! ### names and constants -/
def tVar (i : Nat) : TE := fun σ H Q => ∃ v, σ[i]? = some (some v) ∧ Q v H
def tC (v : V) : TE := fun _ H Q => Q v H
theorem pe_var {i : Nat} {x : Str} {pos : Pos} (hN : X.N[i]? = some x) (hv : Vis X.env.scope x) (hd : (x == ("__debug__" : Str)) = false := by decide) (hcd : (x == ("__classdict__" : Str)) = false := by decide) : PE X (.Name x pos) (tVar i) := by
  intro pins s σ H Q I h
  obtain ⟨v, e, h⟩ := h
  obtain ⟨m, hn, hl⟩ := I.loc
  obtain ⟨u, r, l⟩ := hl i x v hN e hv
  have fin : EP X pins σ Q u s := ⟨v, H, I, r, h⟩
  rcases l with ⟨hk, hm⟩ | ⟨hk, c, hc, hcell⟩
  · exact wpAny_Name (wpAny_loadName_local I.ok.kind hk hn hm fin) hd
  · rcases hk with hk | hk
    · exact wpAny_Name (wpAny_loadName_cell I.ok.kind hk hc hcell fin) hd
    · exact wpAny_Name (wpAny_loadName_free I.ok.kind hk hc hcell fin hcd) hd
theorem pe_int {i j pos} : PE X (.Constant (.int i) j pos) (tC (.int i)) := fun _ _ _ H _ I h => wpAny_Constant_int ⟨.int i, H, I.tok _, ⟨_, rfl⟩, h⟩
theorem pe_bl {b j pos} : PE X (.Constant (.bool b) j pos) (tC (.bl b)) := fun _ _ _ H _ I h => Constant_bool ⟨.bl b, H, I, rfl, h⟩
theorem pe_non {j pos} : PE X (.Constant .none j pos) (tC .non) := fun _ _ _ H _ I h => Constant_none ⟨.non, H, I, rfl, h⟩
theorem pe_str {x j pos} : PE X (.Constant (.str x) j pos) (tC (.str x)) := fun _ _ _ H _ I h => Calls.Constant_str ⟨.str x, H, I.tok _, ⟨_, rfl⟩, h⟩

/-- a global name of the def -/
def Gl (X : Cx) (x : Str) : Prop := X.env.kindOf x = some .globalImplicit
theorem ld_glob {E : Value → Shared → Prop} {pins : List (Addr × Obj)} {s : Shared} {σ : St} {H : Hp} {x : Str} {u : Value} {pos : Pos} {Q : Value → Shared → Prop} (I : Inv X pins σ H s) (hg : Gl X x) (hm : X.mg x = some u) (h : Q u s)
    (hd : (x == ("__debug__" : Str)) = false := by decide) : wpAny (model X.prog X.w) X.A (eval (.Name x pos) X.env) Q E s :=
  Calls.Name_function_global I.ok.kind hg (Calls.loadGlobal_global (by rw [I.ok.glob]; exact I.mod.glob.keeps I.bk) hm h) hd
theorem ld_blt {E : Value → Shared → Prop} {pins : List (Addr × Obj)} {s : Shared} {σ : St} {H : Hp} {x : Str} {u : Value} {pos : Pos} {Q : Value → Shared → Prop} (I : Inv X pins σ H s) (hg : Gl X x) (hm : X.mg x = none) (hv : bootBuiltins x = some u) (h : Q u s)
    (hn : x ≠ "__name__" := by decide) (hd : (x == ("__debug__" : Str)) = false := by decide) : wpAny (model X.prog X.w) X.A (eval (.Name x pos) X.env) Q E s := by
  obtain ⟨mb, h1, h2⟩ := I.mod.blt
  exact Calls.Name_function_global I.ok.kind hg (Calls.loadGlobal_builtin (by rw [I.ok.glob]; exact I.mod.glob.keeps I.bk) hm (by rw [I.ok.blt]; exact h1.keeps I.bk) ((h2 x hn).trans hv) h) hd
/-- a module's constant, a class, a function, as a value -/
theorem pe_glob {x : Str} {v : V} {u : Value} {pos : Pos} (hg : Gl X x) (hm : X.mg x = some u) (r : RelV v u) (hd : (x == ("__debug__" : Str)) = false := by decide) : PE X (.Name x pos) (tC v) :=
  fun _ _ _ H _ I h => ld_glob I hg hm ⟨v, H, I, r, h⟩ hd
theorem pe_bltn {x : Str} {v : V} {u : Value} {pos : Pos} (hg : Gl X x) (hm : X.mg x = none) (hv : bootBuiltins x = some u) (r : RelV v u) (hn : x ≠ "__name__" := by decide) (hd : (x == ("__debug__" : Str)) = false := by decide) : PE X (.Name x pos) (tC v) :=
  fun _ _ _ H _ I h => ld_blt I hg hm hv ⟨v, H, I, r, h⟩ hn hd

/-! ### arithmetic -/
/-- two ints -/
def t2I (ta tb : TE) (k : Int → Int → Hp → Prop) : St → Hp → Prop := fun σ H => ta σ H fun x H1 => tb σ H1 fun y H2 => ∃ i j, x = .int i ∧ y = .int j ∧ k i j H2
def tAdd (ta tb : TE) : TE := fun σ H Q => t2I ta tb (fun i j H2 => Q (.int (i + j)) H2) σ H
def tSub (ta tb : TE) : TE := fun σ H Q => t2I ta tb (fun i j H2 => Q (.int (i - j)) H2) σ H
/-- the left factor below 2^64 -/
def tMul (ta tb : TE) : TE := fun σ H Q => t2I ta tb (fun i j H2 => (-(2 ^ 64) < i ∧ i < 2 ^ 64) ∧ Q (.int (i * j)) H2) σ H
variable {a b : Expr} {ta tb : TE} {pos : Pos}
/-! ### comparisons -/
def PC (X : Cx) (op : CmpOp) (a b : Expr) (t : TE) : Prop :=
  ∀ (pins : List (Addr × Obj)) (s : Shared) (σ : St) (H : Hp) (Q : VK), Inv X pins σ H s → t σ H Q →
    wpAny (model X.prog X.w) X.A (eval a X.env) (fun v s₁ => wpAny (model X.prog X.w) X.A (eval b X.env) (fun u s₂ => wpAny (model X.prog X.w) X.A (compareOp op v u) (EP X pins σ Q) X.xe s₂) X.xe s₁) X.xe s
def tCmp (p : Int → Int → Bool) (ta tb : TE) : TE := fun σ H Q => t2I ta tb (fun i j H2 => Q (.bl (p i j)) H2) σ H
abbrev tLt : TE → TE → TE := tCmp fun i j => decide (i < j)
abbrev tLe : TE → TE → TE := tCmp fun i j => decide (i ≤ j)
abbrev tGt : TE → TE → TE := tCmp fun i j => decide (j < i)
abbrev tGe : TE → TE → TE := tCmp fun i j => decide (j ≤ i)
abbrev tEqI : TE → TE → TE := tCmp fun i j => decide (i = j)
abbrev tNeI : TE → TE → TE := tCmp fun i j => !decide (i = j)
/-- is None -/
def tIsN (ta : TE) : TE := fun σ H Q => ta σ H fun x H1 => Q (.bl (decide (x = .non))) H1
def tNotN (ta : TE) : TE := fun σ H Q => ta σ H fun x H1 => Q (.bl (!decide (x = .non))) H1
/-- a comparison as a value, as a test -/
def tB (t : TE) : TT := fun σ H Q => t σ H fun x H1 => ∃ c, x = .bl c ∧ Q c H1
/-! ### and, or, not -/
variable {tA tB' : TT} {rest : List Expr}
def tAnd (t u : TT) : TT := fun σ H Q => t σ H fun c H1 => if c = true then u σ H1 Q else Q false H1
def tOr (t u : TT) : TT := fun σ H Q => t σ H fun c H1 => if c = true then Q true H1 else u σ H1 Q
def tNot (t : TT) : TT := fun σ H Q => t σ H fun c H1 => Q (!c) H1
theorem pw_and1 (ha : PT X a tA) : PW X (.BoolOp .And [a] pos) tA := by
  intro wh pins s σ H Q I h
  refine isTrue_and (thn (ha pins s σ H Q I h) fun c s1 e => ?_)
  cases c with
  | true => exact isTrue_and_nil e
  | false => exact e
theorem pw_or1 (ha : PT X a tA) : PW X (.BoolOp .Or [a] pos) tA := by
  intro wh pins s σ H Q I h
  refine isTrue_or (thn (ha pins s σ H Q I h) fun c s1 e => ?_)
  cases c with
  | false => exact isTrue_or_nil e
  | true => exact e
theorem pw_and (ha : PT X a tA) (hb : PW X (.BoolOp .And (b :: rest) pos) tB') : PW X (.BoolOp .And (a :: b :: rest) pos) (tAnd tA tB') := by
  intro wh pins s σ H Q I h
  refine isTrue_and (thn (ha pins s σ H _ I h) fun c s1 ⟨H1, I1, q1⟩ => ?_)
  cases c with
  | true => exact hb wh pins s1 σ H1 Q I1 q1
  | false => exact ⟨H1, I1, q1⟩
theorem pw_or (ha : PT X a tA) (hb : PW X (.BoolOp .Or (b :: rest) pos) tB') : PW X (.BoolOp .Or (a :: b :: rest) pos) (tOr tA tB') := by
  intro wh pins s σ H Q I h
  refine isTrue_or (thn (ha pins s σ H _ I h) fun c s1 ⟨H1, I1, q1⟩ => ?_)
  cases c with
  | true => exact ⟨H1, I1, q1⟩
  | false => exact hb wh pins s1 σ H1 Q I1 q1
theorem pt_not (ha : PT X a tA) : PT X (.UnaryOp .Not a pos) (tNot tA) := by
  intro pins s σ H Q I h
  exact isTrue_not (ha pins s σ H (fun c H1 => Q (!c) H1) I h)
/-- .. as values (bools) -/
def tAndV (ta tb : TE) : TE := fun σ H Q => ta σ H fun x H1 => ∃ c, x = .bl c ∧ if c = true then tb σ H1 Q else Q (.bl false) H1
def tOrV (ta tb : TE) : TE := fun σ H Q => ta σ H fun x H1 => ∃ c, x = .bl c ∧ if c = true then Q (.bl true) H1 else tb σ H1 Q
def tNotV (ta : TE) : TE := fun σ H Q => ta σ H fun x H1 => ∃ c, x = .bl c ∧ Q (.bl (!c)) H1
theorem pe_one {op} {t : TE} (h : PE X a t) : PE X (.BoolOp op [a] pos) t := fun pins s σ H Q I hw => BoolOp_one (h pins s σ H Q I hw)
/-- a if t else b -/
def tIf (t : TT) (ta tb : TE) : TE := fun σ H Q => t σ H fun c H1 => if c = true then ta σ H1 Q else tb σ H1 Q
theorem pe_ifExp {c : Expr} (hc : PT X c tA) (ha : PE X a ta) (hb : PE X b tb) : PE X (.IfExp c a b pos) (tIf tA ta tb) := by
  intro pins s σ H Q I h
  refine wpAny_IfExp (thn (hc pins s σ H _ I h) fun d s1 ⟨H1, I1, q1⟩ => ?_)
  cases d with
  | true => exact ha pins s1 σ H1 Q I1 q1
  | false => exact hb pins s1 σ H1 Q I1 q1
end
end L2

namespace L2
open PySem PySem.Spec PyProof.Rows

/-! ### a list, a tuple that is read: tracked, frozen, or an object of the module -/
def SqL (K : PySem.W.Frag) (H : Hp) (a : Addr) (xs : List V) : Prop :=
  Rd H a (.lst xs) ∨
    ∃ (o : Obj) (its : Array Value) (n : Nat), K.lookup a = some o ∧ o.cls = .type "list" ∧ o.dict = none ∧ o.data = .seq its n ∧ its.size ≤ sizeLine ∧ Vals xs its.toList
def SqT (K : PySem.W.Frag) (H : Hp) (a : Addr) (xs : List V) : Prop :=
  Rd H a (.tup xs) ∨
    ∃ (o : Obj) (its : Array Value) (n : Nat), K.lookup a = some o ∧ o.cls = .type "tuple" ∧ o.data = .seq its n ∧ its.size ≤ sizeLine ∧ Vals xs its.toList
def absV : Value → Option V
  | .none => some .non
  | .bool b => some (.bl b)
  | .int i _ => some (.int i)
  | .str x _ => some (.str x)
  | .bytes b _ => some (.byt b)
  | .float b _ => some (.flt b)
  | .ref a => some (.ref a)
  | .type n => some (.ty n)
  | _ => none
theorem RelV.abs {x : V} {u : Value} (r : RelV x u) : absV u = some x := by
  cases x with
  | non => cases r; rfl
  | bl _ => cases r; rfl
  | int _ => obtain ⟨t, rfl⟩ := r; rfl
  | str _ => obtain ⟨t, rfl⟩ := r; rfl
  | byt _ => obtain ⟨t, rfl⟩ := r; rfl
  | flt _ => obtain ⟨t, rfl⟩ := r; rfl
  | ref _ => cases r; rfl
  | ty _ => cases r; rfl
theorem RelV.inj {x y : V} {u : Value} (r : RelV x u) (q : RelV y u) : x = y := Option.some.inj (r.abs.symm.trans q.abs)
theorem Vals.inj : ∀ {xs ys : List V} {us : List Value}, Vals xs us → Vals ys us → xs = ys
  | _, _, _, .nil, .nil => rfl
  | _, _, _, .cons r t, .cons r' t' => by rw [r.inj r', Vals.inj t t']
section
variable {X : Cx} {pins : List (Addr × Obj)} {σ : St} {H : Hp} {s : Shared} {a : Addr} {xs ys : List V}
theorem SqL.of {K : PySem.W.Frag} (h : H a = some (.lst xs)) : SqL K H a xs := .inl (.inl h)
theorem SqT.of {K : PySem.W.Frag} (h : H a = some (.tup xs)) : SqT K H a xs := .inl (.inl h)
theorem Inv.list (I : Inv X pins σ H s) (h : SqL X.K H a xs) : ∃ its : List Value, Vals xs its ∧ PlainL s.heap a its.toArray ∧ xs.length ≤ sizeLine := by
  rcases h with h | ⟨o, its, n, hk, hc, hd, hs, hz, r⟩
  · obtain ⟨z, its, n, r, e⟩ := h.ok I.hok
    exact ⟨its, r, ⟨_, n, e, rfl, rfl, rfl⟩, z⟩
  · refine ⟨its.toList, r, ⟨o, n, I.kIn a o hk, hc, hd, by simpa using hs⟩, ?_⟩
    have e := r.length
    simp only [Array.length_toList] at e
    omega
theorem Inv.tuple (I : Inv X pins σ H s) (h : SqT X.K H a xs) : ∃ its : List Value, Vals xs its ∧ IsTup s.heap a its.toArray ∧ xs.length ≤ sizeLine := by
  rcases h with h | ⟨o, its, n, hk, hc, hs, hz, r⟩
  · obtain ⟨z, its, r, p⟩ := h.ok I.hok
    exact ⟨its, r, p, z⟩
  · refine ⟨its.toList, r, ⟨o, I.kIn a o hk, hc, n, by simpa using hs⟩, ?_⟩
    have e := r.length
    simp only [Array.length_toList] at e
    omega
theorem Inv.list_inj (I : Inv X pins σ H s) (h : SqL X.K H a xs) (h' : SqL X.K H a ys) : xs = ys := by
  obtain ⟨its, r, ⟨o, n, e, _, _, d⟩, _⟩ := I.list h
  obtain ⟨its', r', ⟨o', n', e', _, _, d'⟩, _⟩ := I.list h'
  rw [e] at e'; cases e'
  rw [d] at d'
  injection d' with d1 _
  have : its = its' := by simpa using congrArg Array.toList d1
  subst this
  exact r.inj r'
theorem Inv.tuple_inj (I : Inv X pins σ H s) (h : SqT X.K H a xs) (h' : SqT X.K H a ys) : xs = ys := by
  obtain ⟨its, r, ⟨o, e, _, n, d⟩, _⟩ := I.tuple h
  obtain ⟨its', r', ⟨o', e', _, n', d'⟩, _⟩ := I.tuple h'
  rw [e] at e'; cases e'
  rw [d] at d'
  injection d' with d1 _
  have : its = its' := by simpa using congrArg Array.toList d1
  subst this
  exact r.inj r'
end

/-! ### another wish about exceptions -/
abbrev Cx.wish (X : Cx) (E : Value → Shared → Prop) : Cx := { X with xe := E }
/-- no exception leaves -/
abbrev Cx.nox (X : Cx) : Cx := X.wish fun _ _ => False
theorem Cx.Ok.wish {X : Cx} (ok : X.Ok) (E : Value → Shared → Prop) : (X.wish E).Ok :=
  ⟨ok.mod, ok.kind, ok.glob, ok.blt, ok.above, ok.inj, ok.has, ok.cab, ok.hd, ok.frames, ok.stk, ok.exf, ok.bs, ok.bsz, ok.noex, ok.exfs, ok.funs, ok.frf⟩
theorem Cx.Ok.unwish {X : Cx} {E : Value → Shared → Prop} (ok : (X.wish E).Ok) : X.Ok :=
  ⟨ok.mod, ok.kind, ok.glob, ok.blt, ok.above, ok.inj, ok.has, ok.cab, ok.hd, ok.frames, ok.stk, ok.exf, ok.bs, ok.bsz, ok.noex, ok.exfs, ok.funs, ok.frf⟩
section
variable {X : Cx} {pins : List (Addr × Obj)} {σ : St} {H : Hp} {s : Shared} {E : Value → Shared → Prop}
theorem Inv.wish (I : Inv X pins σ H s) (E : Value → Shared → Prop) : Inv (X.wish E) pins σ H s := ⟨I.ok.wish E, I.os, I.bare, I.base, I.loc, I.cell, I.free, I.freeC, I.pin, I.hok, I.len⟩
theorem Inv.unwish (I : Inv (X.wish E) pins σ H s) : Inv X pins σ H s := ⟨I.ok.unwish, I.os, I.bare, I.base, I.loc, I.cell, I.free, I.freeC, I.pin, I.hok, I.len⟩
theorem SP.unwish {D : Ends} {f : Flow} {s' : Shared} (h : SP (X.wish E) pins D f s') : SP X pins D f s' := by
  cases f with
  | next => obtain ⟨σ', H', I, q⟩ := h; exact ⟨σ', H', I.unwish, q⟩
  | brk => obtain ⟨σ', H', I, q⟩ := h; exact ⟨σ', H', I.unwish, q⟩
  | cont => obtain ⟨σ', H', I, q⟩ := h; exact ⟨σ', H', I.unwish, q⟩
  | ret u => obtain ⟨v, σ', H', I, r, q⟩ := h; exact ⟨v, σ', H', I.unwish, r, q⟩
theorem PSs.nox {st : List Stmt} {t : TS} (h : PSs X.nox st t) : PSs X st t := fun pins s σ H D I hw =>
  wpAny_mono (h pins s σ H D (I.wish _) hw) (fun _ _ q => q.unwish) fun _ _ z => False.elim z
end

/-! ### blocks and small statements -/
section
variable {X : Cx} {st : Stmt} {rest : List Stmt} {t u : TS} {e : Expr} {te : TE} {pos : Pos}
def tNext : TS := fun D σ H => D.nx σ H
def tSeq (t u : TS) : TS := fun D σ H => t { D with nx := u D } σ H
theorem pss_nil : PSs X [] tNext := fun _ _ σ H _ I h => wpAny_execs_nil ⟨σ, H, I, h⟩
theorem pss_cons (h1 : PS X st t) (h2 : PSs X rest u) : PSs X (st :: rest) (tSeq t u) := by
  intro pins s σ H D I h
  refine wpAny_execs_cons (thn (h1 pins s σ H { D with nx := u D } I h) fun f s1 q => ?_)
  cases f with
  | next =>
    obtain ⟨σ', H', I', q⟩ := q
    exact h2 pins s1 σ' H' D I' q
  | ret v => exact q
  | brk => exact q
  | cont => exact q
theorem pss_one (h1 : PS X st t) : PSs X [st] t := by
  intro pins s σ H D I h
  refine wpAny_execs_cons (thn (h1 pins s σ H D I h) fun f s1 q => ?_)
  cases f with
  | next => exact wpAny_execs_nil q
  | ret v => exact q
  | brk => exact q
  | cont => exact q
def tBreak : TS := fun D σ H => D.bk σ H
def tCont : TS := fun D σ H => D.ct σ H
/-- in a def's body nothing is shown -/
theorem Inv.quiet {pins : List (Addr × Obj)} {σ : St} {H : Hp} {s : Shared} (I : Inv X pins σ H s) : interactive X.env = false := by simp [interactive, I.ok.kind]
/-- an expression whose value is dropped -/
def tDrop (te : TE) : TS := fun D σ H => te σ H fun _ H1 => D.nx σ H1
theorem ps_expr (he : PE X e te) (hs : swapsWith e none pos.line X.env = pure false := by rfl) : PS X (.Expr e pos) (tDrop te) := by
  intro pins s σ H D I h
  exact wpAny_Expr_any (thn (he pins s σ H _ I h) fun v s1 ⟨x, H1, I1, r1, q1⟩ => ⟨σ, H1, I1, q1⟩) I.quiet hs
def tRet (te : TE) : TS := fun D σ H => te σ H D.rt
theorem ps_ret (he : PE X e te) : PS X (.Return (some e) pos) (tRet te) := by
  intro pins s σ H D I h
  exact wpAny_Return_some (thn (he pins s σ H _ I h) fun v s1 ⟨x, H1, I1, r1, q1⟩ => ⟨x, σ, H1, I1, r1, q1⟩)
def tRetN : TS := fun D _ H => D.rt .non H
def tIfS (c : TT) (t u : TS) : TS := fun D σ H => c σ H fun b H1 => if b = true then t D σ H1 else u D σ H1
theorem ps_if {c : Expr} {a b : List Stmt} {tc : TT} (hc : PT X c tc) (ha : PSs X a t) (hb : PSs X b u) : PS X (.If c a b pos) (tIfS tc t u) := by
  intro pins s σ H D I h
  refine wpAny_If (thn (hc pins s σ H _ I h) fun d s1 ⟨H1, I1, q1⟩ => ?_)
  cases d with
  | true => exact ha pins s1 σ H1 D I1 q1
  | false => exact hb pins s1 σ H1 D I1 q1
/-- code that the proof never comes to -/
def tNever : TS := fun _ _ _ => False
end

/-! ### targets -/
abbrev TG := V → St → Hp → (St → Hp → Prop) → Prop
abbrev TGs := List V → St → Hp → (St → Hp → Prop) → Prop
def PG (X : Cx) (target : Expr) (t : TG) : Prop :=
  ∀ (pins : List (Addr × Obj)) (s : Shared) (σ : St) (H : Hp) (v : V) (u : Value) (Q : St → Hp → Prop), Inv X pins σ H s → RelV v u → t v σ H Q →
    wpAny (model X.prog X.w) X.A (assign target X.env u) (fun _ s' => ∃ σ' H', Inv X pins σ' H' s' ∧ Q σ' H') X.xe s
/-- several targets, one after another -/
def PGs (X : Cx) (ts : List Expr) (t : TGs) : Prop :=
  ∀ (pins : List (Addr × Obj)) (s : Shared) (σ : St) (H : Hp) (vs : List V) (us : List Value) (Q : St → Hp → Prop), Inv X pins σ H s → Vals vs us → t vs σ H Q →
    wpAny (model X.prog X.w) X.A (assignInOrder ((assignEach ts X.env).map (·.2)) us) (fun _ s' => ∃ σ' H', Inv X pins σ' H' s' ∧ Q σ' H') X.xe s
/-- o[i] = v, by values -/
abbrev TSet := V → V → V → Hp → (Hp → Prop) → Prop
def PSet (X : Cx) (t : TSet) : Prop :=
  ∀ (pins : List (Addr × Obj)) (s : Shared) (σ : St) (H : Hp) (o i v : V) (ov iv u : Value) (Q : Hp → Prop), Inv X pins σ H s → RelV o ov → RelV i iv → RelV v u → t o i v H Q →
    wpAny (model X.prog X.w) X.A (setItem ov iv u) (fun _ s' => ∃ H', Inv X pins σ H' s' ∧ Q H') X.xe s
/-- a op= b, by values -/
abbrev TIp := V → V → Hp → VK → Prop
def PIp (X : Cx) (op : Operator) (t : TIp) : Prop :=
  ∀ (pins : List (Addr × Obj)) (s : Shared) (σ : St) (H : Hp) (x y : V) (v u : Value) (Q : VK), Inv X pins σ H s → RelV x v → RelV y u → t x y H Q →
    wpAny (model X.prog X.w) X.A (inplaceOp op v u) (EP X pins σ Q) X.xe s
section
variable {X : Cx} {pos : Pos}
def gName (i : Nat) : TG := fun v σ H Q => Q (σ.set i (some v)) H
theorem pg_name {i : Nat} {x : Str} (hN : X.N.Nodup) (hi : X.N[i]? = some x) (hx : Loc X.env.scope x) (hf : X.fn x = true ∨ X.env.scope.names.lookup x = some .local := by first | exact .inl rfl | exact .inr rfl | assumption) : PG X (.Name x pos) (gName i) := by
  intro pins s σ H v u Q I r h
  exact wpAny_assign_Name (store_ok I hN hi hx r (fun s' I' => ⟨_, H, I', h⟩) hf)
def gNil : TGs := fun vs σ H Q => vs = [] ∧ Q σ H
def gCons (t : TG) (u : TGs) : TGs := fun vs σ H Q => ∃ v r, vs = v :: r ∧ t v σ H fun σ' H' => u r σ' H' Q
/-- (a, b, ..) = a tuple of that length -/
def gTup (K : PySem.W.Frag) (n : Nat) (t : TGs) : TG := fun v σ H Q => ∃ a xs, v = .ref a ∧ SqT K H a xs ∧ xs.length = n ∧ t xs σ H Q
/-- o[i] = .. -/
def gSub (to ti : TE) (t : TSet) : TG := fun v σ H Q => to σ H fun o H1 => ti σ H1 fun i H2 => t o i v H2 fun H3 => Q σ H3
/-- target = value -/
def tAsg (te : TE) (g : TG) : TS := fun D σ H => te σ H fun x H1 => g x σ H1 D.nx
/-- name = value -/
theorem ps_set {i : Nat} {x : Str} {e : Expr} {te : TE} {pos' : Pos} (hN : X.N.Nodup) (hi : X.N[i]? = some x) (hx : Loc X.env.scope x) (he : PE X e te) (hs : swapsWith e (some (.Name x pos')) pos.line X.env = pure false := by rfl) (hf : X.fn x = true ∨ X.env.scope.names.lookup x = some .local := by first | exact .inl rfl | exact .inr rfl | assumption) :
    PS X (.Assign [.Name x pos'] e pos) (tAsg te (gName i)) := by
  intro pins s σ H D I h
  refine wpAny_Assign_Name (thn (he pins s σ H _ I h) fun v s1 ⟨y, H1, I1, r1, q1⟩ => ?_) hs
  exact store_ok I1 hN hi hx r1 (fun s2 I2 => ⟨_, H1, I2, q1⟩) hf
/-- a, b = x, y with plain local names: stored from the right; the pair itself is not tracked (the opening rows as in PyProof/Rows/TupAssign.lean:23) -/
def tPar (i j : Nat) (ta : TA) : TS := fun D σ H => ta σ H fun vs H1 => ∃ v w, vs = [v, w] ∧ D.nx ((σ.set i (some v)).set j (some w)) H1
/-- name op= e -/
def tAug (i : Nat) (te : TE) (ti : TIp) : TS := fun D σ H => ∃ x, σ[i]? = some (some x) ∧ te σ H fun y H1 => ti x y H1 fun z H2 => D.nx (σ.set i (some z)) H2
theorem ps_aug {i : Nat} {x : Str} {e : Expr} {te : TE} {op : Operator} {ti : TIp} {pos' : Pos} (hN : X.N.Nodup) (hi : X.N[i]? = some x) (hx : Loc X.env.scope x) (he : PE X e te) (ho : PIp X op ti) (hf : X.fn x = true ∨ X.env.scope.names.lookup x = some .local := by first | exact .inl rfl | exact .inr rfl | assumption) :
    PS X (.AugAssign (.Name x pos') op e pos) (tAug i te ti) := by
  intro pins s σ H D I h
  obtain ⟨v, e1, h⟩ := h
  obtain ⟨m, hn, hl⟩ := I.loc
  have vis : Vis X.env.scope x := by rcases hx with k | k; exact .inl k; exact .inr (.inl k)
  obtain ⟨u, r, l⟩ := hl i x v hi e1 vis
  refine wpAny_AugAssign_Name ?_
  have go : wpAny (model X.prog X.w) X.A (eval e X.env) (fun w s₂ => wpAny (model X.prog X.w) X.A (inplaceOp op u w) (fun r s₃ => wpAny (model X.prog X.w) X.A (storeName X.env x r) (fun _ => SP X pins D .next) X.xe s₃) X.xe s₂) X.xe s := by
    refine thn (he pins s σ H _ I h) fun w s1 ⟨y, H1, I1, r1, q1⟩ => ?_
    refine thn (ho pins s1 σ H1 v y u w _ I1 r r1 q1) fun z s2 ⟨zv, H2, I2, r2, q2⟩ => ?_
    exact store_ok I2 hN hi hx r2 (fun s3 I3 => ⟨_, H2, I3, q2⟩) hf
  rcases l with ⟨hk, hm⟩ | ⟨hk, c, hc, hcell⟩
  · exact wpAny_loadName_local I.ok.kind hk hn hm go
  · rcases hk with hk | hk
    · exact wpAny_loadName_cell I.ok.kind hk hc hcell go
    · rcases hx with k | k
      · have : X.env.scope.names.lookup x = some .free := hk
        rw [k] at this; cases this
      · have : X.env.scope.names.lookup x = some .free := hk
        rw [k] at this; cases this
/-- o[i] op= e -/
def tAugS (to ti te : TE) (tget : V → V → Hp → VK → Prop) (tip : TIp) (tset : TSet) : TS := fun D σ H => to σ H fun o H1 => ti σ H1 fun i H2 => tget o i H2 fun x H3 => te σ H3 fun y H4 => tip x y H4 fun z H5 => tset o i z H5 fun H6 => D.nx σ H6
/-- o[i], by values -/
def PGet (X : Cx) (t : V → V → Hp → VK → Prop) : Prop :=
  ∀ (pins : List (Addr × Obj)) (s : Shared) (σ : St) (H : Hp) (o i : V) (ov iv : Value) (Q : VK), Inv X pins σ H s → RelV o ov → RelV i iv → t o i H Q →
    wpAny (model X.prog X.w) X.A (getItem ov iv) (EP X pins σ Q) X.xe s
/-- ints -/
def ipI (f : Int → Int → Int) : TIp := fun x y H Q => ∃ i j, x = .int i ∧ y = .int j ∧ Q (.int (f i j)) H
theorem ip_add : PIp X .Add (ipI fun i j => i + j) := by
  intro pins s σ H x y v u Q I r1 r2 h
  obtain ⟨i, j, e1, e2, q⟩ := h
  subst e1; subst e2
  obtain ⟨t, rfl⟩ := r1
  obtain ⟨t', rfl⟩ := r2
  exact iadd_int ⟨.int _, H, I.tok _, ⟨_, rfl⟩, q⟩
end

/-! ### while -/
section
variable {X : Cx} {pos : Pos}
/-- the invariant W with its measure -/
def tWhile (c : TT) (tb : TS) : TS := fun D σ H => ∃ W : Nat → St → Hp → Prop, (∃ m, W m σ H) ∧ ∀ m σ H, W m σ H →
  c σ H fun b H1 => if b = true then ∃ N : St → Hp → Prop, (∀ σ' H', N σ' H' → ∃ m', m' < m ∧ W m' σ' H') ∧ tb { D with nx := N, ct := N, bk := D.nx } σ H1 else D.nx σ H1
end

/-! ### what a loop or a comprehension walks -/
/-- at turn i: it yields x (the heap may grow), or it stops -/
structure It where
  go : Nat → Hp → Prop
  yld : Nat → Hp → V → Hp → Prop
  stop : Nat → Hp → Prop
/-- the iterator's own objects may turn: they are not the frame's, not pinned, younger than the entry (or a comprehension's own) -/
def FpOk (X : Cx) (pins : List (Addr × Obj)) (H : Hp) (b : Addr) : Prop :=
  H b = none ∧ b ≠ X.env.locals ∧ b ∉ X.fs ∧ (b ∈ X.ex ∨ X.s₀.heap.objs.size ≤ b) ∧ (∀ x c, X.env.cells.lookup x = some c → c ≠ b) ∧ ∀ p ∈ X.pn ++ pins, p.1 ≠ b
theorem Inv.fpOk {X : Cx} {pins : List (Addr × Obj)} {σ : St} {H H' : Hp} {s : Shared} {b : Addr} (I : Inv X pins σ H s) (hb : s.heap.objs.size ≤ b) (hn : H' b = none) : FpOk X pins H' b := by
  refine ⟨hn, Nat.ne_of_gt (Nat.lt_of_lt_of_le I.lt hb), I.nofs hb, .inr (Nat.le_trans I.sz hb), fun x c e z => ?_, fun p hp z => ?_⟩
  · obtain ⟨v, q⟩ := I.cell x c e
    exact absurd (Nat.lt_of_lt_of_le q.lt (by rw [z]; exact hb)) (Nat.lt_irrefl _)
  · exact absurd (Nat.lt_of_lt_of_le (Heap.lt_size (I.pin p hp).1) (by rw [z]; exact hb)) (Nat.lt_irrefl _)
structure Turn (P : Program) (w : World) (K : PySem.W.Frag) (tg : Expr) (J : It) (fp : List Addr) (it : Addr) (tn : Nat → Heap → Prop) : Prop where
  mem : it ∈ fp
  obj : ∀ i h, tn i h → ∀ b ∈ fp, ∃ o, h.get? b = some o ∧ ∀ v, o.data ≠ .cell v
  keep : ∀ i h h', tn i h → (∀ b ∈ fp, ∀ o, h.get? b = some o → h'.get? b = some o) → tn i h'
  item : ∀ (X : Cx), X.prog = P → X.w = w → X.K = K → X.calm = true → ∀ (i : Nat) (pins : List (Addr × Obj)) (s : Shared) (σ : St) (H : Hp) (E : Value → Shared → Prop), Inv X pins σ H s → (∀ b ∈ fp, FpOk X pins H b) → tn i s.heap → J.go i H →
    wpAny (model P w) X.A (pyNext (.ref it)) (fun r s1 => ∃ u, r = some u ∧
      wpAny (model P w) X.A (letOwnedTupleGo tg (.ref it) u) (fun _ s2 => ∃ x H', Inv X pins σ H' s2 ∧ RelV x u ∧ J.yld i H x H' ∧ tn (i + 1) s2.heap ∧ ∀ b ∈ fp, H' b = none) E s1) E s
  done : ∀ (X : Cx), X.prog = P → X.w = w → X.K = K → X.calm = true → ∀ (i : Nat) (pins : List (Addr × Obj)) (s : Shared) (σ : St) (H : Hp) (E : Value → Shared → Prop), Inv X pins σ H s → (∀ b ∈ fp, FpOk X pins H b) → tn i s.heap → J.stop i H →
    wpAny (model P w) X.A (pyNext (.ref it)) (fun r s1 => r = none ∧ Inv X pins σ H s1) E s
  self : ∀ (A : Around) (i : Nat) (s : Shared) (Q : Value → Shared → Prop) (E : Value → Shared → Prop), tn i s.heap → Q (.ref it) s → wpAny (model P w) A (pyIter (.ref it)) Q E s
abbrev TI := St → Hp → (It → Hp → Prop) → Prop
/-- an iterator has come -/
def PIE (X : Cx) (pins : List (Addr × Obj)) (σ : St) (tg : Expr) (R : It → Hp → Prop) (itv : Value) (s2 : Shared) : Prop :=
  ∃ (it : Addr) (fp : List Addr) (tn : Nat → Heap → Prop) (J : It) (H' : Hp), itv = .ref it ∧ Inv X pins σ H' s2 ∧ Turn X.prog X.w X.K tg J fp it tn ∧ tn 0 s2.heap ∧ (∀ b ∈ fp, FpOk X pins H' b) ∧ R J H'
def PI (X : Cx) (tg iter : Expr) (wi : TI) : Prop :=
  ∀ (pins : List (Addr × Obj)) (s : Shared) (σ : St) (H : Hp) (R : It → Hp → Prop), Inv X pins σ H s → wi σ H R →
    wpAny (model X.prog X.w) X.A (eval iter X.env) (fun v s1 => wpAny (model X.prog X.w) X.A (pyIter v) (PIE X pins σ tg R) X.xe s1) X.xe s

/-- the step ahead of the store is nothing for an iterator that keeps no tuple -/
theorem go_of {M : Model} {A : Around} {E : Value → Shared → Prop} {s : Shared} {tg : Expr} {it : Addr} {u : Value} {o : Obj} {n : String} {vs : Array Value} {Q : Unit → Shared → Prop} (ho : s.heap.get? it = some o) (hc : o.cls = .type n) (hd : o.data = .fields vs)
    (hn : ["enumerate", "zip", "dict_itemiterator", "dict_reverseitemiterator", "odict_iterator", "itertools.zip_longest", "itertools.pairwise"].contains n = false) (hQ : Q () s) : wpAny M A (letOwnedTupleGo tg (.ref it) u) Q E s := by
  unfold letOwnedTupleGo
  cases tg <;> first
    | exact wpAny_pure hQ
    | (cases u <;> first
        | exact wpAny_pure hQ
        | (refine wpAny_bind (wpAny_load ho ?_)
           rw [hc, hd]
           show wpAny M A (if (["enumerate", "zip", "dict_itemiterator", "dict_reverseitemiterator", "odict_iterator", "itertools.zip_longest", "itertools.pairwise"].contains n && vs[0]? == some (rawInt _)) = true then _ else _) Q E s
           rw [if_neg (by intro h; rw [hn, Bool.false_and] at h; cases h)]
           exact wpAny_pure hQ))

/-- the list at a, as it stands at each turn (a loop may append to it) -/
def Itl (K : PySem.W.Frag) (a : Addr) : It :=
  ⟨fun i H => ∃ xs x, SqL K H a xs ∧ xs[i]? = some x, fun i H x H' => H' = H ∧ ∀ xs, SqL K H a xs → xs[i]? = some x, fun i H => ∃ xs, SqL K H a xs ∧ xs.length ≤ i⟩
def Itt (K : PySem.W.Frag) (a : Addr) : It :=
  ⟨fun i H => ∃ xs x, SqT K H a xs ∧ xs[i]? = some x, fun i H x H' => H' = H ∧ ∀ xs, SqT K H a xs → xs[i]? = some x, fun i H => ∃ xs, SqT K H a xs ∧ xs.length ≤ i⟩
/-- lo, lo + 1, .. (n of them) -/
def Itr (lo : Int) (n : Nat) : It := ⟨fun i _ => i < n, fun i H x H' => H' = H ∧ x = .int (lo + i), fun i _ => n ≤ i⟩
theorem turn_list {P : Program} {w : World} {K : PySem.W.Frag} {tg : Expr} (a it : Addr) : Turn P w K tg (Itl K a) [it] it (fun i h => h.IsListIter it a i) where
  mem := by simp
  obj := fun i h st b hb => by
    have e : b = it := by simpa using hb
    subst e
    obtain ⟨o, e, c, d⟩ := st
    exact ⟨o, e, fun v z => by rw [d] at z; cases z⟩
  keep := fun i h h' st k => st.at fun o e => k it (by simp) o e
  item := by
    intro X hP hw hK hc i pins s σ H E I hf st hg
    subst hP hw hK
    obtain ⟨xs, x, hq, hx⟩ := hg
    obtain ⟨its, rv, p, hz⟩ := I.list hq
    obtain ⟨u, hu, ru⟩ := rv.get hx
    obtain ⟨f0, f1, f2, f3, f4, f5⟩ := hf it (by simp)
    refine wpAny_pyNext_list_item st p.isList (x := u) (by simpa using hu) fun h' st' sb => ?_
    have I1 : Inv X pins σ H { s with heap := h' } := I.turned (t' := s.toks) (fun b o hb e => (sb.2 b hb).trans e) f0 f1 f3 f4 f5
    obtain ⟨o, e, c, d⟩ := id st'
    exact ⟨u, rfl, go_of (s := { s with heap := h' }) e c d (by decide) ⟨x, H, I1, ru, ⟨rfl, fun ys hy => by rw [I.list_inj hy hq]; exact hx⟩, st', fun b hb => (hf b hb).1⟩⟩
  done := by
    intro X hP hw hK hc i pins s σ H E I hf st hg
    subst hP hw hK
    obtain ⟨xs, hq, hx⟩ := hg
    obtain ⟨its, rv, p, hz⟩ := I.list hq
    obtain ⟨f0, f1, f2, f3, f4, f5⟩ := hf it (by simp)
    have hl := rv.length
    exact wpAny_pyNext_list_end (I.ok.hd hc) st p.isList (by simp; omega) fun h' eb => ⟨rfl, I.turned (t' := s.toks) (fun b o hb e => eb b o hb e) f0 f1 f3 f4 f5⟩
  self := fun _ _ _ _ _ st h => wpAny_pyIter_listiter st h
theorem turn_tuple {P : Program} {w : World} {K : PySem.W.Frag} {tg : Expr} (a it : Addr) : Turn P w K tg (Itt K a) [it] it (fun i h => h.IsTupleIter it a i) where
  mem := by simp
  obj := fun i h st b hb => by
    have e : b = it := by simpa using hb
    subst e
    obtain ⟨o, e, c, d⟩ := st
    exact ⟨o, e, fun v z => by rw [d] at z; cases z⟩
  keep := fun i h h' st k => st.at fun o e => k it (by simp) o e
  item := by
    intro X hP hw hK hc i pins s σ H E I hf st hg
    subst hP hw hK
    obtain ⟨xs, x, hq, hx⟩ := hg
    obtain ⟨its, rv, p, hz⟩ := I.tuple hq
    obtain ⟨u, hu, ru⟩ := rv.get hx
    obtain ⟨f0, f1, f2, f3, f4, f5⟩ := hf it (by simp)
    refine wpAny_pyNext_tuple_item st (show s.heap.IsTuple a its.toArray from p) (x := u) (by simpa using hu) fun h' st' sb => ?_
    have I1 : Inv X pins σ H { s with heap := h' } := I.turned (t' := s.toks) (fun b o hb e => (sb.2 b hb).trans e) f0 f1 f3 f4 f5
    obtain ⟨o, e, c, d⟩ := id st'
    exact ⟨u, rfl, go_of (s := { s with heap := h' }) e c d (by decide) ⟨x, H, I1, ru, ⟨rfl, fun ys hy => by rw [I.tuple_inj hy hq]; exact hx⟩, st', fun b hb => (hf b hb).1⟩⟩
  done := by
    intro X hP hw hK hc i pins s σ H E I hf st hg
    subst hP hw hK
    obtain ⟨xs, hq, hx⟩ := hg
    obtain ⟨its, rv, p, hz⟩ := I.tuple hq
    obtain ⟨f0, f1, f2, f3, f4, f5⟩ := hf it (by simp)
    have hl := rv.length
    exact wpAny_pyNext_tuple_end (I.ok.hd hc) st (show s.heap.IsTuple a its.toArray from p) (by simp; omega) fun h' eb => ⟨rfl, I.turned (t' := s.toks) (fun b o hb e => eb b o hb e) f0 f1 f3 f4 f5⟩
  self := fun _ _ _ _ _ st h => wpAny_pyIter_tupleiter st h
theorem turn_range {P : Program} {w : World} {K : PySem.W.Frag} {tg : Expr} (it : Addr) (lo : Int) (n : Nat) : Turn P w K tg (Itr lo n) [it] it (fun i h => IsRangeIter h it (lo + (i : Nat) * 1) ((n : Int) - (i : Nat)) 1) where
  mem := by simp
  obj := fun i h st b hb => by
    have e : b = it := by simpa using hb
    subst e
    exact ⟨_, st, fun v z => by
      have z' : Data.fields _ = Data.cell v := z
      cases z'⟩
  keep := fun i h h' st k => k it (by simp) _ st
  item := by
    intro X hP hw hK hc i pins s σ H E I hf st hg
    subst hP hw hK
    obtain ⟨f0, f1, f2, f3, f4, f5⟩ := hf it (by simp)
    have W := Walks.range (prog := X.prog) (w := X.w) (I.ok.hd hc) it lo 1 n
    refine W.item i s _ _ hg st fun v h' tk hv st' kk => ?_
    obtain ⟨t, rfl⟩ := hv
    have I1 : Inv X pins σ H { s with heap := h', toks := tk } := I.turned (fun b o hb e => kk b o (by simpa using hb) e) f0 f1 f3 f4 f5
    refine ⟨_, rfl, go_of (s := { s with heap := h', toks := tk }) (n := "range_iterator") st' rfl rfl (by decide) ⟨.int (lo + i), H, I1, ⟨t, ?_⟩, ⟨rfl, rfl⟩, st', fun b hb => (hf b hb).1⟩⟩
    rw [Int.mul_one]
  done := by
    intro X hP hw hK hc i pins s σ H E I hf st hg
    subst hP hw hK
    obtain ⟨f0, f1, f2, f3, f4, f5⟩ := hf it (by simp)
    exact wpAny_pyNext_range_end (I.ok.hd hc) st (by have : n ≤ i := hg; omega) fun h' eb => ⟨rfl, I.turned (t' := s.toks) (fun b o hb e => eb b o hb e) f0 f1 f3 f4 f5⟩
  self := fun _ _ _ _ _ st h => wpAny_pyIter_rangeiter st h
end L2

namespace L2
open PySem PySem.Spec PyProof.Rows
section
variable {X : Cx} {tg : Expr}
def iList (K : PySem.W.Frag) (tl : TE) : TI := fun σ H R => tl σ H fun x H1 => ∃ a, x = .ref a ∧ (∃ xs, SqL K H1 a xs) ∧ R (Itl K a) H1
def iTup (K : PySem.W.Frag) (tl : TE) : TI := fun σ H R => tl σ H fun x H1 => ∃ a, x = .ref a ∧ (∃ xs, SqT K H1 a xs) ∧ R (Itt K a) H1
/-- a range object just made, walked -/
theorem range_it {pins : List (Addr × Obj)} {σ : St} {H : Hp} {s : Shared} {R : It → Hp → Prop} {E : Value → Shared → Prop} {lo hi : Int} {t u v : Tok} {tk : Nat} (I : Inv X pins σ H s) (h1 : -(2 ^ 62) ≤ lo) (h2 : lo < 2 ^ 62) (h3 : -(2 ^ 62) ≤ hi) (h4 : hi < 2 ^ 62)
    (q : R (Itr lo (hi - lo).toNat) H) : wpAny (model X.prog X.w) X.A (pyIter (.ref s.heap.objs.size)) (PIE X pins σ tg R) E { s with heap := s.heap.push { cls := .type "range", data := .fields #[.int lo t, .int hi u, .int 1 v] }, toks := tk } := by
  refine wpAny_pyIter_range (IsRange.new ..) (small_one h1 h2 h3 h4) ?_
  have I1 : Inv X pins σ H { s with heap := s.heap.push { cls := .type "range", data := .fields #[.int lo t, .int hi u, .int 1 v] }, toks := tk } := I.kept fun b o e => Heap.get?_push_of_some _ e
  refine ⟨(s.heap.push { cls := .type "range", data := .fields #[.int lo t, .int hi u, .int 1 v] }).objs.size, [(s.heap.push { cls := .type "range", data := .fields #[.int lo t, .int hi u, .int 1 v] }).objs.size], _, _, H, rfl,
    I1.kept (t' := tk) fun b o e => Heap.get?_push_of_some _ e, turn_range _ lo (hi - lo).toNat, ?_, fun b hb => ?_, q⟩
  · have e1 : lo + ((0 : Nat) : Int) * 1 = lo := by simp
    have e2 : (((hi - lo).toNat : Nat) : Int) - ((0 : Nat) : Int) = Builtin.Range.rangeSize lo hi 1 := by rw [rangeSize_one]; split <;> omega
    show IsRangeIter _ _ (lo + ((0 : Nat) : Int) * 1) ((((hi - lo).toNat : Nat) : Int) - ((0 : Nat) : Int)) 1
    rw [e1, e2]
    exact Heap.get?_push_size _ rfl
  · have e : b = (s.heap.push { cls := .type "range", data := .fields #[.int lo t, .int hi u, .int 1 v] }).objs.size := by simpa using hb
    subst e
    exact I1.fpOk (Nat.le_refl _) (I1.hok.fresh (Nat.le_refl _))
def iRng1 (ta : TA) : TI := fun σ H R => ta σ H fun vs H1 => ∃ j : Int, vs = [.int j] ∧ -(2 ^ 62) ≤ j ∧ j < 2 ^ 62 ∧ R (Itr 0 j.toNat) H1
def iRng2 (ta : TA) : TI := fun σ H R => ta σ H fun vs H1 => ∃ i j : Int, vs = [.int i, .int j] ∧ (-(2 ^ 62) ≤ i ∧ i < 2 ^ 62 ∧ -(2 ^ 62) ≤ j ∧ j < 2 ^ 62) ∧ R (Itr i (j - i).toNat) H1
/-! ### for -/
/-- W: the invariant by the turn and a measure; N: what the body is to reach -/
def tFor (wi : TI) (g : TG) (tb : TS) : TS := fun D σ H => wi σ H fun J H1 => ∃ W : Nat → Nat → St → Hp → Prop, (∃ m, W 0 m σ H1) ∧ ∀ i m σ H, W i m σ H →
  (J.stop i H ∧ D.nx σ H) ∨ (J.go i H ∧ ∃ N : St → Hp → Prop, (∀ σ' H', N σ' H' → ∃ m', m' < m ∧ W (i + 1) m' σ' H') ∧ ∀ x H', J.yld i H x H' → g x σ H' fun σ2 H2 => tb { D with nx := N, ct := N, bk := D.nx } σ2 H2)
/-- the records at fp as they stand -/
def pinsAt (fp : List Addr) (h : Heap) : List (Addr × Obj) := fp.filterMap fun b => (h.get? b).map fun o => (b, o)
theorem mem_pinsAt {fp : List Addr} {h : Heap} {b : Addr} {o : Obj} (hb : b ∈ fp) (e : h.get? b = some o) : (b, o) ∈ pinsAt fp h := List.mem_filterMap.mpr ⟨b, hb, by rw [e]; rfl⟩
theorem of_pinsAt {fp : List Addr} {h : Heap} {p : Addr × Obj} (hp : p ∈ pinsAt fp h) : p.1 ∈ fp ∧ h.get? p.1 = some p.2 := by
  obtain ⟨b, hb, e⟩ := List.mem_filterMap.mp hp
  cases q : h.get? b with
  | none => rw [q] at e; cases e
  | some o =>
    rw [q] at e
    have e' : (b, o) = p := Option.some.inj e
    subst e'
    exact ⟨hb, q⟩
theorem Inv.pinned {pins : List (Addr × Obj)} {σ : St} {H : Hp} {s : Shared} {fp : List Addr} (I : Inv X pins σ H s) (hf : ∀ b ∈ fp, FpOk X pins H b) (ho : ∀ b ∈ fp, ∃ o, s.heap.get? b = some o ∧ ∀ v, o.data ≠ .cell v) : Inv X (pins ++ pinsAt fp s.heap) σ H s :=
  I.pins_of fun p hp => (List.mem_append.mp hp).elim (fun z => I.pin p (List.mem_append_right _ z)) fun z => by
    obtain ⟨hb, e⟩ := of_pinsAt z
    obtain ⟨f0, f1, f2, _⟩ := hf p.1 hb
    obtain ⟨o, e', d⟩ := ho p.1 hb
    rw [e] at e'; cases e'
    exact ⟨e, f0, f1, f2, d⟩
theorem Inv.unpinned {pins pl : List (Addr × Obj)} {σ : St} {H : Hp} {s : Shared} (I : Inv X (pins ++ pl) σ H s) : Inv X pins σ H s := I.pins_of fun p hp => I.pin p (List.mem_append_right _ (List.mem_append_left _ hp))
theorem ps_for {iter : Expr} {body : List Stmt} {wi : TI} {g : TG} {tb : TS} {pos : Pos} (hp : PassesOwn (model X.prog X.w) X.A X.env X.xe) (hc : X.calm = true) (hi : PI X tg iter wi) (hg : PG X tg g) (hb : PSs X body tb)
    (hs : ∀ x, foldedSetIterable iter X.env x = pure x := by intro _; rfl) : PS X (.For tg iter body [] pos) (tFor wi g tb) := by
  intro pins s σ H D I h
  refine wpAny_For (thn (hi pins s σ H _ I h) fun v s1 h1 => thn h1 fun itv s2 h2 => ?_) hs
  obtain ⟨it, fp, tn, J, H2, e, I2, T, st2, f2, W, ⟨m0, w0⟩, turn⟩ := h2
  subst e
  -- what stays true of the iterator's objects through the loop
  have stat : ∀ {H' : Hp}, (∀ b ∈ fp, H' b = none) → ∀ b ∈ fp, FpOk X pins H' b := fun hn b hb => ⟨hn b hb, (f2 b hb).2⟩
  refine codeAny_forLoop_any (fun n s' => ∃ i σ' H', Inv X pins σ' H' s' ∧ tn i s'.heap ∧ (∀ b ∈ fp, H' b = none) ∧ W i n σ' H') ?_ m0 ⟨0, σ, H2, I2, st2, fun b hb => (f2 b hb).1, w0⟩
  rintro n s3 ⟨i, σ3, H3, I3, st3, fr3, w3⟩
  rcases turn i n σ3 H3 w3 with ⟨stop, qn⟩ | ⟨go, N, hN, step⟩
  · refine wpAny_passesOwn hp (thn (T.done X rfl rfl rfl hc i pins s3 σ3 H3 X.xe I3 (stat fr3) st3 stop) fun r s4 ⟨hr, I4⟩ => ?_)
    subst hr
    exact wpAny_execs_nil ⟨σ3, H3, I4, qn⟩
  · refine wpAny_passesOwn hp (thn (T.item X rfl rfl rfl hc i pins s3 σ3 H3 X.xe I3 (stat fr3) st3 go) fun r s4 ⟨u, hr, h4⟩ => ?_)
    subst hr
    refine wpAny_passesOwn hp (thn h4 fun _ s5 ⟨x, H5, I5, r5, y5, st5, fr5⟩ => ?_)
    have I5' := I5.pinned (stat fr5) (T.obj _ _ st5)
    refine wpAny_passesOwn hp (thn (hg _ s5 σ3 H5 x u _ I5' r5 (step x H5 y5)) fun _ s6 ⟨σ6, H6, I6, q6⟩ => ?_)
    refine wpAny_passesOwn hp (thn (hb _ s6 σ6 H6 _ I6 q6) fun f s7 q7 => ?_)
    have again : ∀ {σ7 : St} {H7 : Hp}, Inv X (pins ++ pinsAt fp s5.heap) σ7 H7 s7 → N σ7 H7 → ∃ m, m < n ∧ ∃ i σ' H', Inv X pins σ' H' s7 ∧ tn i s7.heap ∧ (∀ b ∈ fp, H' b = none) ∧ W i m σ' H' := fun {σ7 H7} I7 n7 => by
      obtain ⟨m', hm, w7⟩ := hN σ7 H7 n7
      refine ⟨m', hm, i + 1, σ7, H7, I7.unpinned, T.keep _ _ _ st5 fun b hb o e => (I7.pin (b, o) (List.mem_append_right _ (List.mem_append_right _ (mem_pinsAt hb e)))).1, fun b hb => ?_, w7⟩
      obtain ⟨o, e, d⟩ := T.obj _ _ st5 b hb
      exact (I7.pin (b, o) (List.mem_append_right _ (List.mem_append_right _ (mem_pinsAt hb e)))).2.1
    cases f with
    | next => obtain ⟨σ7, H7, I7, n7⟩ := q7; exact again I7 n7
    | cont => obtain ⟨σ7, H7, I7, n7⟩ := q7; exact again I7 n7
    | brk => obtain ⟨σ7, H7, I7, q7⟩ := q7; exact ⟨σ7, H7, I7.unpinned, q7⟩
    | ret v => obtain ⟨x7, σ7, H7, I7, r7, q7⟩ := q7; exact ⟨x7, σ7, H7, I7.unpinned, r7, q7⟩
end

/-! ### the forms one uses -/
/-- over a list that the body leaves as it is -/
theorem for_list {K : PySem.W.Frag} {a : Addr} {xs : List V} {g : TG} {tb : TS} {D : Ends} {σ : St} {H : Hp} (Pv : Nat → St → Hp → Prop) (h0 : Pv 0 σ H) (hl : ∀ i σ H, i ≤ xs.length → Pv i σ H → SqL K H a xs)
    (hs : ∀ i x σ H, xs[i]? = some x → Pv i σ H → g x σ H fun σ2 H2 => tb { D with nx := Pv (i + 1), ct := Pv (i + 1), bk := D.nx } σ2 H2) (hd : ∀ σ H, Pv xs.length σ H → D.nx σ H) :
    ∃ W : Nat → Nat → St → Hp → Prop, (∃ m, W 0 m σ H) ∧ ∀ i m σ H, W i m σ H →
      ((Itl K a).stop i H ∧ D.nx σ H) ∨ ((Itl K a).go i H ∧ ∃ N : St → Hp → Prop, (∀ σ' H', N σ' H' → ∃ m', m' < m ∧ W (i + 1) m' σ' H') ∧ ∀ x H', (Itl K a).yld i H x H' → g x σ H' fun σ2 H2 => tb { D with nx := N, ct := N, bk := D.nx } σ2 H2) := by
  refine ⟨fun i m σ H => m = xs.length - i ∧ i ≤ xs.length ∧ Pv i σ H, ⟨xs.length, by simp, Nat.zero_le _, h0⟩, ?_⟩
  rintro i m σ H ⟨rfl, hi, p⟩
  have q := hl i σ H hi p
  by_cases hlt : i < xs.length
  · refine .inr ⟨⟨xs, xs[i], q, by simp [hlt]⟩, Pv (i + 1), fun σ' H' p' => ⟨xs.length - (i + 1), by omega, rfl, hlt, p'⟩, fun x H' y => ?_⟩
    obtain ⟨e, y⟩ := y
    subst e
    exact hs i x σ _ (y xs q) p
  · have e : i = xs.length := by omega
    subst e
    exact .inl ⟨⟨xs, q, Nat.le_refl _⟩, hd σ H p⟩
theorem for_tup {K : PySem.W.Frag} {a : Addr} {xs : List V} {g : TG} {tb : TS} {D : Ends} {σ : St} {H : Hp} (Pv : Nat → St → Hp → Prop) (h0 : Pv 0 σ H) (hl : ∀ i σ H, i ≤ xs.length → Pv i σ H → SqT K H a xs)
    (hs : ∀ i x σ H, xs[i]? = some x → Pv i σ H → g x σ H fun σ2 H2 => tb { D with nx := Pv (i + 1), ct := Pv (i + 1), bk := D.nx } σ2 H2) (hd : ∀ σ H, Pv xs.length σ H → D.nx σ H) :
    ∃ W : Nat → Nat → St → Hp → Prop, (∃ m, W 0 m σ H) ∧ ∀ i m σ H, W i m σ H →
      ((Itt K a).stop i H ∧ D.nx σ H) ∨ ((Itt K a).go i H ∧ ∃ N : St → Hp → Prop, (∀ σ' H', N σ' H' → ∃ m', m' < m ∧ W (i + 1) m' σ' H') ∧ ∀ x H', (Itt K a).yld i H x H' → g x σ H' fun σ2 H2 => tb { D with nx := N, ct := N, bk := D.nx } σ2 H2) := by
  refine ⟨fun i m σ H => m = xs.length - i ∧ i ≤ xs.length ∧ Pv i σ H, ⟨xs.length, by simp, Nat.zero_le _, h0⟩, ?_⟩
  rintro i m σ H ⟨rfl, hi, p⟩
  have q := hl i σ H hi p
  by_cases hlt : i < xs.length
  · refine .inr ⟨⟨xs, xs[i], q, by simp [hlt]⟩, Pv (i + 1), fun σ' H' p' => ⟨xs.length - (i + 1), by omega, rfl, hlt, p'⟩, fun x H' y => ?_⟩
    obtain ⟨e, y⟩ := y
    subst e
    exact hs i x σ _ (y xs q) p
  · have e : i = xs.length := by omega
    subst e
    exact .inl ⟨⟨xs, q, Nat.le_refl _⟩, hd σ H p⟩
theorem for_range {lo : Int} {n : Nat} {g : TG} {tb : TS} {D : Ends} {σ : St} {H : Hp} (Pv : Nat → St → Hp → Prop) (h0 : Pv 0 σ H)
    (hs : ∀ i σ H, i < n → Pv i σ H → g (.int (lo + i)) σ H fun σ2 H2 => tb { D with nx := Pv (i + 1), ct := Pv (i + 1), bk := D.nx } σ2 H2) (hd : ∀ σ H, Pv n σ H → D.nx σ H) :
    ∃ W : Nat → Nat → St → Hp → Prop, (∃ m, W 0 m σ H) ∧ ∀ i m σ H, W i m σ H →
      ((Itr lo n).stop i H ∧ D.nx σ H) ∨ ((Itr lo n).go i H ∧ ∃ N : St → Hp → Prop, (∀ σ' H', N σ' H' → ∃ m', m' < m ∧ W (i + 1) m' σ' H') ∧ ∀ x H', (Itr lo n).yld i H x H' → g x σ H' fun σ2 H2 => tb { D with nx := N, ct := N, bk := D.nx } σ2 H2) := by
  refine ⟨fun i m σ H => m = n - i ∧ i ≤ n ∧ Pv i σ H, ⟨n, by simp, Nat.zero_le _, h0⟩, ?_⟩
  rintro i m σ H ⟨rfl, hi, p⟩
  by_cases hlt : i < n
  · refine .inr ⟨hlt, Pv (i + 1), fun σ' H' p' => ⟨n - (i + 1), by omega, rfl, hlt, p'⟩, fun x H' y => ?_⟩
    obtain ⟨e, y⟩ := y
    subst e y
    exact hs i σ _ hlt p
  · have e : i = n := by omega
    subst e
    exact .inl ⟨Nat.le_refl _, hd σ H p⟩
end L2

namespace L2
open PySem PySem.Spec PyProof.Rows

abbrev R2 := V → V → Hp → VK → Prop
/-- a two-place operation on values: f is binaryOp op, inplaceOp op or compareOp op -/
def OpR (X : Cx) (f : Value → Value → Sem Value) (r : R2) : Prop :=
  ∀ (pins : List (Addr × Obj)) (s : Shared) (σ : St) (H : Hp) (x y : V) (v u : Value) (Q : VK), Inv X pins σ H s → RelV x v → RelV y u → r x y H Q →
    wpAny (model X.prog X.w) X.A (f v u) (EP X pins σ Q) X.xe s
/-- a one-place operation -/
def UnR (X : Cx) (f : Value → Sem Value) (r : V → Hp → VK → Prop) : Prop :=
  ∀ (pins : List (Addr × Obj)) (s : Shared) (σ : St) (H : Hp) (x : V) (v : Value) (Q : VK), Inv X pins σ H s → RelV x v → r x H Q →
    wpAny (model X.prog X.w) X.A (f v) (EP X pins σ Q) X.xe s
/-- a call of a value that is known (a builtin, a type) with values -/
def CallR (X : Cx) (f : Value) (r : List V → Hp → VK → Prop) : Prop :=
  ∀ (pins : List (Addr × Obj)) (s : Shared) (σ : St) (H : Hp) (xs : List V) (us : List Value) (Q : VK), Inv X pins σ H s → Vals xs us → r xs H Q →
    wpAny (model X.prog X.w) X.A (call f us) (EP X pins σ Q) X.xe s
/-- a value's truth -/
def TruR (X : Cx) (r : V → Hp → (Bool → Hp → Prop) → Prop) : Prop :=
  ∀ (pins : List (Addr × Obj)) (s : Shared) (σ : St) (H : Hp) (x : V) (v : Value) (Q : Bool → Hp → Prop), Inv X pins σ H s → RelV x v → r x H Q →
    wpAny (model X.prog X.w) X.A (truthy v) (TP X pins σ Q) X.xe s

def tOp (r : R2) (ta tb : TE) : TE := fun σ H Q => ta σ H fun x H1 => tb σ H1 fun y H2 => r x y H2 Q
def tUn (r : V → Hp → VK → Prop) (ta : TE) : TE := fun σ H Q => ta σ H fun x H1 => r x H1 Q
/-- ints in, under C, and a value out -/
def rI (C : Int → Int → Prop) (g : Int → Int → V) : R2 := fun x y H Q => ∃ i j, x = .int i ∧ y = .int j ∧ C i j ∧ Q (g i j) H
def rI0 (g : Int → Int → V) : R2 := fun x y H Q => ∃ i j, x = .int i ∧ y = .int j ∧ Q (g i j) H
def rU (g : Int → V) : V → Hp → VK → Prop := fun x H Q => ∃ i, x = .int i ∧ Q (g i) H

section
variable {X : Cx} {a b c : Expr} {ta tb tc : TE} {pos : Pos}

theorem binT (ha : PE X a ta) (hb : PE X b tb) {pins : List (Addr × Obj)} {s : Shared} {σ : St} {H : Hp} {R : V → V → Hp → Prop} (I : Inv X pins σ H s)
    (h : ta σ H fun x H1 => tb σ H1 fun y H2 => R x y H2) {Q : Value → Shared → Prop} {f : Value → Value → Sem Value}
    (hf : ∀ v u s2 x y H2, Inv X pins σ H2 s2 → RelV x v → RelV y u → R x y H2 → wpAny (model X.prog X.w) X.A (f v u) Q X.xe s2) :
    wpAny (model X.prog X.w) X.A (eval a X.env) (fun v s₁ => wpAny (model X.prog X.w) X.A (eval b X.env) (fun u s₂ => wpAny (model X.prog X.w) X.A (f v u) Q X.xe s₂) X.xe s₁) X.xe s := by
  refine thn (ha pins s σ H _ I h) fun v s1 ⟨x, H1, I1, r1, q1⟩ => ?_
  refine thn (hb pins s1 σ H1 _ I1 q1) fun u s2 ⟨y, H2, I2, r2, q2⟩ => ?_
  exact hf v u s2 x y H2 I2 r1 r2 q2

theorem pe_op {op : Operator} {r : R2} (ho : OpR X (binaryOp op) r) (ha : PE X a ta) (hb : PE X b tb) : PE X (.BinOp a op b pos) (tOp r ta tb) := by
  intro pins s σ H Q I h
  exact wpAny_BinOp (binT ha hb I h fun v u s2 x y H2 I2 rx ry q => ho pins s2 σ H2 x y v u Q I2 rx ry q)
theorem pe_un {op : UnaryOp} {r : V → Hp → VK → Prop} (ho : UnR X (unaryOp op) r) (ha : PE X a ta) : PE X (.UnaryOp op a pos) (tUn r ta) := by
  intro pins s σ H Q I h
  exact UnaryOp_ (thn (ha pins s σ H _ I h) fun v s1 ⟨x, H1, I1, r1, q1⟩ => ho pins s1 σ H1 x v Q I1 r1 q1)
/-! ### ints -/
theorem opI {f : Value → Value → Sem Value} {C : Int → Int → Prop} {g : Int → Int → Int}
    (rule : ∀ (i j : Int) (t u : Tok) (s : Shared) (Q : Value → Shared → Prop) (E : Value → Shared → Prop), C i j → Q (.int (g i j) s.toks) { s with toks := s.toks + 1 } → wpAny (model X.prog X.w) X.A (f (.int i t) (.int j u)) Q E s) :
    OpR X f (rI C fun i j => .int (g i j)) := by
  intro pins s σ H x y v u Q I rx ry h
  obtain ⟨i, j, rfl, rfl, hc, q⟩ := h
  obtain ⟨t, rfl⟩ := rx
  obtain ⟨t', rfl⟩ := ry
  exact rule i j t t' s _ _ hc ⟨.int (g i j), H, I.tok _, ⟨_, rfl⟩, q⟩
theorem opI0 {f : Value → Value → Sem Value} {g : Int → Int → Int}
    (rule : ∀ (i j : Int) (t u : Tok) (s : Shared) (Q : Value → Shared → Prop) (E : Value → Shared → Prop), Q (.int (g i j) s.toks) { s with toks := s.toks + 1 } → wpAny (model X.prog X.w) X.A (f (.int i t) (.int j u)) Q E s) :
    OpR X f (rI0 fun i j => .int (g i j)) := by
  intro pins s σ H x y v u Q I rx ry h
  obtain ⟨i, j, rfl, rfl, q⟩ := h
  obtain ⟨t, rfl⟩ := rx
  obtain ⟨t', rfl⟩ := ry
  exact rule i j t t' s _ _ ⟨.int (g i j), H, I.tok _, ⟨_, rfl⟩, q⟩
theorem opB0 {f : Value → Value → Sem Value} {g : Int → Int → Bool}
    (rule : ∀ (i j : Int) (t u : Tok) (s : Shared) (Q : Value → Shared → Prop) (E : Value → Shared → Prop), Q (.bool (g i j)) s → wpAny (model X.prog X.w) X.A (f (.int i t) (.int j u)) Q E s) :
    OpR X f (rI0 fun i j => .bl (g i j)) := by
  intro pins s σ H x y v u Q I rx ry h
  obtain ⟨i, j, rfl, rfl, q⟩ := h
  obtain ⟨t, rfl⟩ := rx
  obtain ⟨t', rfl⟩ := ry
  exact rule i j t t' s _ _ ⟨.bl (g i j), H, I, rfl, q⟩

def CDiv (i j : Int) : Prop := 0 < j ∧ j < 1073741824
def CDivN (i j : Int) : Prop := j ≠ 0 ∧ j.natAbs < 1073741824
def CPow (i j : Int) : Prop := 0 ≤ j ∧ j ≤ 1000000 ∧ i.natAbs < 2 ^ 64
def CMul (i j : Int) : Prop := (-(2 ^ 64) < i ∧ i < 2 ^ 64) ∨ (-(2 ^ 64) < j ∧ j < 2 ^ 64)
theorem CMul.ok {i j : Int} (h : CMul i j) : IntMulOk i j := by
  rcases h with ⟨h1, h2⟩ | ⟨h1, h2⟩
  · exact .of_left (intBits_le_64 h1 h2)
  · exact .of_right (intBits_le_64 h1 h2)
theorem op_add : OpR X (binaryOp .Add) (rI0 fun i j => .int (i + j)) := opI0 fun _ _ _ _ _ _ _ q => add_int q
theorem op_sub : OpR X (binaryOp .Sub) (rI0 fun i j => .int (i - j)) := opI0 fun _ _ _ _ _ _ _ q => sub_int q
theorem op_mul : OpR X (binaryOp .Mult) (rI CMul fun i j => .int (i * j)) := opI fun _ _ _ _ _ _ _ hc q => mul_int q hc.ok
/-- // by a positive divisor -/
theorem op_fdiv : OpR X (binaryOp .FloorDiv) (rI CDiv fun i j => .int (i / j)) := opI fun i j _ _ _ _ _ hc q => by
  have h1 : (0 : Int) < j := hc.1
  have h2 : j < 1073741824 := hc.2
  exact floordiv_int (by omega) (by rw [Int.fdiv_eq_ediv_of_nonneg i (by omega)]; exact q) (.inl (PyProof.noPylong_small (by omega)))
/-- % by a positive divisor of any size -/
theorem op_mod : OpR X (binaryOp .Mod) (rI (fun _ j => 0 < j) fun i j => .int (i % j)) := opI fun i j _ _ _ _ _ hc q => by
  have h1 : (0 : Int) < j := hc
  exact mod_int' (by omega) (by rw [Int.fmod_eq_emod_of_nonneg i (by omega)]; exact q)
theorem op_pow : OpR X (binaryOp .Pow) (rI CPow fun i j => .int (i ^ j.toNat)) := opI fun _ _ _ _ _ _ _ hc q => pow_int_small hc.1 hc.2.1 hc.2.2 q
theorem op_shl : OpR X (binaryOp .LShift) (rI CPow fun i j => .int (i * 2 ^ j.toNat)) := opI fun _ _ _ _ _ _ _ hc q => lshift_int_small hc.1 hc.2.1 hc.2.2 q
theorem unI {f : Value → Sem Value} {g : Int → Int}
    (rule : ∀ (i : Int) (t : Tok) (s : Shared) (Q : Value → Shared → Prop) (E : Value → Shared → Prop), Q (.int (g i) s.toks) { s with toks := s.toks + 1 } → wpAny (model X.prog X.w) X.A (f (.int i t)) Q E s) :
    UnR X f (rU fun i => .int (g i)) := by
  intro pins s σ H x v Q I rx h
  obtain ⟨i, rfl, q⟩ := h
  obtain ⟨t, rfl⟩ := rx
  exact rule i t s _ _ ⟨.int (g i), H, I.tok _, ⟨_, rfl⟩, q⟩
theorem un_neg : UnR X (unaryOp .USub) (rU fun i => .int (-i)) := unI fun _ _ _ _ _ q => neg_int q
/-! ### bools among ints: n += (a < b) -/
end

/-! ### comparisons -/
/-- the scalars that == tells apart as data does -/
def scal : V → V → Bool
  | .non, .non => true | .non, .int _ => true | .int _, .non => true | .non, .bl _ => true | .bl _, .non => true | .non, .str _ => true | .str _, .non => true
  | .int _, .int _ => true | .bl _, .bl _ => true | .str _, .str _ => true | .byt _, .byt _ => true
  | .int _, .str _ => true | .str _, .int _ => true | .bl _, .str _ => true | .str _, .bl _ => true
  | _, _ => false
def rEq : R2 := fun x y H Q => scal x y = true ∧ Q (.bl (decide (x = y))) H
def rNe : R2 := fun x y H Q => scal x y = true ∧ Q (.bl (!decide (x = y))) H

theorem dec_int {i j : Int} : decide (V.int i = V.int j) = (i == j) := by
  rw [Bool.eq_iff_iff]
  simp
theorem dec_bl {i j : Bool} : decide (V.bl i = V.bl j) = (i == j) := by
  rw [Bool.eq_iff_iff]
  simp
theorem dec_str {i j : Str} : decide (V.str i = V.str j) = (i == j) := by
  rw [Bool.eq_iff_iff]
  simp
theorem dec_byt {i j : Array UInt8} : decide (V.byt i = V.byt j) = (i.toList == j.toList) := by
  rw [Bool.eq_iff_iff]
  cases i
  cases j
  simp

section
variable {X : Cx} {a b c : Expr} {ta tb tc : TE} {pos : Pos}
theorem fin_bl {pins : List (Addr × Obj)} {σ : St} {H : Hp} {s : Shared} {Q : VK} {k k' : Bool} (I : Inv X pins σ H s) (q : Q (.bl k) H) (e : k = k') : EP X pins σ Q (.bool k') s := by
  subst e
  exact ⟨.bl k, H, I, rfl, q⟩
theorem op_eq : OpR X (compareOp .Eq) rEq := by
  intro pins s σ H x y v u Q I rx ry h
  obtain ⟨hs, q⟩ := h
  cases x with
  | non =>
    cases rx
    cases y with
    | non => cases ry; exact PySem.EqNone.eq_none_none (fin_bl I q (by simp))
    | bl j => cases ry; exact PySem.EqNone.eq_none_bool (fin_bl I q (by simp))
    | int j => obtain ⟨t', rfl⟩ := ry; exact PySem.EqNone.eq_none_int (fin_bl I q (by simp))
    | str j => obtain ⟨t', rfl⟩ := ry; exact PySem.EqNone.eq_none_str (fin_bl I q (by simp))
    | _ => exact absurd (show false = true from hs) Bool.false_ne_true
  | bl i =>
    cases rx
    cases y with
    | non => cases ry; exact PySem.EqNone.eq_bool_none (fin_bl I q (by simp))
    | bl j => cases ry; exact eq_bool (fin_bl I q dec_bl)
    | str j => obtain ⟨t', rfl⟩ := ry; exact PySem.EqMixed.eq_bool_str (fin_bl I q (by simp))
    | _ => exact absurd (show false = true from hs) Bool.false_ne_true
  | int i =>
    obtain ⟨t, rfl⟩ := rx
    cases y with
    | non => cases ry; exact PySem.EqNone.eq_int_none (fin_bl I q (by simp))
    | int j => obtain ⟨t', rfl⟩ := ry; exact eq_int (fin_bl I q dec_int)
    | str j => obtain ⟨t', rfl⟩ := ry; exact PySem.EqMixed.eq_int_str (fin_bl I q (by simp))
    | _ => exact absurd (show false = true from hs) Bool.false_ne_true
  | str i =>
    obtain ⟨t, rfl⟩ := rx
    cases y with
    | non => cases ry; exact PySem.EqNone.eq_str_none (fin_bl I q (by simp))
    | bl j => cases ry; exact PySem.EqMixed.eq_str_bool (fin_bl I q (by simp))
    | int j => obtain ⟨t', rfl⟩ := ry; exact PySem.EqMixed.eq_str_int (fin_bl I q (by simp))
    | str j => obtain ⟨t', rfl⟩ := ry; exact eq_str (fin_bl I q dec_str)
    | _ => exact absurd (show false = true from hs) Bool.false_ne_true
  | byt i =>
    obtain ⟨t, rfl⟩ := rx
    cases y with
    | byt j => obtain ⟨t', rfl⟩ := ry; exact PySem.W.eq_bytes (fin_bl I q dec_byt)
    | _ => exact absurd (show false = true from hs) Bool.false_ne_true
  | _ => cases y <;> exact absurd (show false = true from hs) Bool.false_ne_true
theorem op_ne : OpR X (compareOp .NotEq) rNe := by
  intro pins s σ H x y v u Q I rx ry h
  obtain ⟨hs, q⟩ := h
  cases x with
  | non =>
    cases rx
    cases y with
    | non => cases ry; exact PySem.EqNone.ne_none_none (fin_bl I q (by simp))
    | bl j => cases ry; exact PySem.EqNone.ne_none_bool (fin_bl I q (by simp))
    | int j => obtain ⟨t', rfl⟩ := ry; exact PySem.EqNone.ne_none_int (fin_bl I q (by simp))
    | str j => obtain ⟨t', rfl⟩ := ry; exact PySem.EqNone.ne_none_str (fin_bl I q (by simp))
    | _ => exact absurd (show false = true from hs) Bool.false_ne_true
  | bl i =>
    cases rx
    cases y with
    | non => cases ry; exact PySem.EqNone.ne_bool_none (fin_bl I q (by simp))
    | bl j => cases ry; exact ne_bool (fin_bl I q (congrArg not dec_bl))
    | str j => obtain ⟨t', rfl⟩ := ry; exact PySem.EqMixed.ne_bool_str (fin_bl I q (by simp))
    | _ => exact absurd (show false = true from hs) Bool.false_ne_true
  | int i =>
    obtain ⟨t, rfl⟩ := rx
    cases y with
    | non => cases ry; exact PySem.EqNone.ne_int_none (fin_bl I q (by simp))
    | int j => obtain ⟨t', rfl⟩ := ry; exact ne_int (fin_bl I q (congrArg not dec_int))
    | str j => obtain ⟨t', rfl⟩ := ry; exact PySem.EqMixed.ne_int_str (fin_bl I q (by simp))
    | _ => exact absurd (show false = true from hs) Bool.false_ne_true
  | str i =>
    obtain ⟨t, rfl⟩ := rx
    cases y with
    | non => cases ry; exact PySem.EqNone.ne_str_none (fin_bl I q (by simp))
    | bl j => cases ry; exact PySem.EqMixed.ne_str_bool (fin_bl I q (by simp))
    | int j => obtain ⟨t', rfl⟩ := ry; exact PySem.EqMixed.ne_str_int (fin_bl I q (by simp))
    | str j => obtain ⟨t', rfl⟩ := ry; exact ne_str (fin_bl I q (congrArg not dec_str))
    | _ => exact absurd (show false = true from hs) Bool.false_ne_true
  | byt i =>
    obtain ⟨t, rfl⟩ := rx
    cases y with
    | byt j => obtain ⟨t', rfl⟩ := ry; exact PySem.W.ne_bytes (fin_bl I q (congrArg not dec_byt))
    | _ => exact absurd (show false = true from hs) Bool.false_ne_true
  | _ => cases y <;> exact absurd (show false = true from hs) Bool.false_ne_true

theorem op_lt : OpR X (compareOp .Lt) (rI0 fun i j => .bl (decide (i < j))) := opB0 fun _ _ _ _ _ _ _ q => lt_int q
theorem op_le : OpR X (compareOp .LtE) (rI0 fun i j => .bl (decide (i ≤ j))) := opB0 fun _ _ _ _ _ _ _ q => le_int q
theorem op_gt : OpR X (compareOp .Gt) (rI0 fun i j => .bl (decide (j < i))) := opB0 fun _ _ _ _ _ _ _ q => gt_int q
theorem op_ge : OpR X (compareOp .GtE) (rI0 fun i j => .bl (decide (j ≤ i))) := opB0 fun _ _ _ _ _ _ _ q => ge_int q
/-- the one string within the other -/
theorem op_in_str : OpR X (compareOp .In) (fun x y H Q => ∃ i j, x = .str i ∧ y = .str j ∧ Q (.bl (!(Builtin.Str.occurrences j i 0 j.length 1).isEmpty)) H) := by
  intro pins s σ H x y v u Q I rx ry h
  obtain ⟨i, j, rfl, rfl, q⟩ := h
  obtain ⟨t, rfl⟩ := rx
  obtain ⟨t', rfl⟩ := ry
  exact in_str (fin_bl I q rfl)

/-- is None, is not None: the right side a value none -/
theorem op_isN : OpR X (compareOp .Is) (fun x y H Q => y = .non ∧ Q (.bl (decide (x = .non))) H) := by
  intro pins s σ H x y v u Q I rx ry h
  obtain ⟨rfl, q⟩ := h
  cases ry
  refine is_none_gen (fin_bl I q ?_)
  cases x <;> first
    | (cases rx; rfl)
    | (obtain ⟨t, rfl⟩ := rx; rfl)
theorem op_notN : OpR X (compareOp .IsNot) (fun x y H Q => y = .non ∧ Q (.bl (!decide (x = .non))) H) := by
  intro pins s σ H x y v u Q I rx ry h
  obtain ⟨rfl, q⟩ := h
  cases ry
  refine isnot_none_gen (fin_bl I q ?_)
  cases x <;> first
    | (cases rx; rfl)
    | (obtain ⟨t, rfl⟩ := rx; rfl)

theorem op_notin_str : OpR X (compareOp .NotIn) (fun x y H Q => ∃ i j, x = .str i ∧ y = .str j ∧ Q (.bl (!(!(Builtin.Str.occurrences j i 0 j.length 1).isEmpty))) H) := by
  intro pins s σ H x y v u Q I rx ry h
  obtain ⟨i, j, rfl, rfl, q⟩ := h
  obtain ⟨t, rfl⟩ := rx
  obtain ⟨t', rfl⟩ := ry
  exact notIn_str (fin_bl I q rfl)
/-- is, is not of two objects that are tracked lists or instances -/
def isObj : HO → Bool
  | .lst _ => true
  | .ins _ _ _ => true
  | _ => false
/-- two rules for one operation: by cases -/
theorem OpR.or {f : Value → Value → Sem Value} {r r' : R2} (h : OpR X f r) (h' : OpR X f r') : OpR X f (fun x y H Q => r x y H Q ∨ r' x y H Q) := by
  intro pins s σ H x y v u Q I rx ry q
  rcases q with q | q
  · exact h pins s σ H x y v u Q I rx ry q
  · exact h' pins s σ H x y v u Q I rx ry q

theorem nomark (b : Expr) {op : CmpOp} (h : op ≠ .In := by decide) (h2 : op ≠ .NotIn := by decide) : behindInMarks op b = false := by
  have e1 : (op == CmpOp.In) = false := by cases op <;> first | rfl | exact absurd rfl h
  have e2 : (op == CmpOp.NotIn) = false := by cases op <;> first | rfl | exact absurd rfl h2
  cases b <;> simp [behindInMarks, e1, e2]
/-- a comparison as a value; hm: nomark b, or (for in, not in) by with_unfolding_all rfl -/
theorem pe_cmpR {op : CmpOp} {r : R2} (ho : OpR X (compareOp op) r) (ha : PE X a ta) (hb : PE X b tb) (hm : behindInMarks op b = false) : PE X (.Compare a [op] [b] pos) (tOp r ta tb) := by
  intro pins s σ H Q I h
  exact wpAny_Compare1 (binT ha hb I h fun v u s2 x y H2 I2 rx ry q => ho pins s2 σ H2 x y v u Q I2 rx ry q) hm
/-- a reading of a value as a test -/
def tTest (t : TE) : TT := fun σ H Q => t σ H fun x H' => ∃ k, x = .bl k ∧ Q k H'
/-- a op1 b op2 c -/
def tChain (r r' : R2) (ta tb tc : TE) : TE := fun σ H Q => ta σ H fun x H1 => tb σ H1 fun y H2 => r x y H2 fun z H3 => ∃ k, z = .bl k ∧
  (if k = true then tc σ H3 fun w' H4 => r' y w' H4 Q else Q (.bl false) H3)
/-! ### truth -/
/-- a value's truth by the abstract heap -/
def TruV (K : PySem.W.Frag) (x : V) (H : Hp) (k : Bool) : Prop :=
  match x with
  | .non => k = false
  | .bl b => k = b
  | .int i => k = (i != 0)
  | .str y => y.length ≤ sizeLine ∧ k = ((y.length : Int) != 0)
  | .byt y => y.size ≤ sizeLine ∧ k = ((y.size : Int) != 0)
  | .ref p => (∃ xs, SqL K H p xs ∧ k = !xs.isEmpty) ∨ (∃ xs, SqT K H p xs ∧ k = !xs.isEmpty) ∨ ∃ kvs, H p = some (.dK kvs) ∧ k = !kvs.isEmpty
  | _ => False
theorem isEmpty_kv {κ : Type} {kvs : List (κ × V)} {vs : List (κ × Value)} (r : KV kvs vs) : (!vs.isEmpty) = !kvs.isEmpty := by
  cases r <;> rfl
theorem isEmpty_of {xs : List V} {its : List Value} (r : Vals xs its) : (!its.toArray.isEmpty) = !xs.isEmpty := by
  cases r <;> simp
theorem line63 : (sizeLine : Nat) < 2 ^ 63 := by rw [sizeLine_eq]; decide
theorem tru_ok : TruR X (fun x H Q => ∃ k, TruV X.K x H k ∧ Q k H) := by
  intro pins s σ H x v Q I rx h
  obtain ⟨k, e, q⟩ := h
  have hl := line63
  have hs : sizeLine = 16777216 := sizeLine_eq
  cases x with
  | non =>
    cases rx
    have e' : k = false := e
    subst e'
    exact truthy_none ⟨H, I, q⟩
  | bl b =>
    cases rx
    have e' : k = b := e
    subst e'
    exact wpAny_truthy_bool ⟨H, I, q⟩
  | int i =>
    obtain ⟨t, rfl⟩ := rx
    have e' : k = (i != 0) := e
    subst e'
    exact PySem.P.truthy_int ⟨H, I, q⟩
  | str y =>
    obtain ⟨t, rfl⟩ := rx
    obtain ⟨hy, e'⟩ : y.length ≤ sizeLine ∧ k = ((y.length : Int) != 0) := e
    subst e'
    exact PySem.P.truthy_str (by omega) ⟨H, I.tok _, q⟩
  | byt y =>
    obtain ⟨t, rfl⟩ := rx
    obtain ⟨hy, e'⟩ : y.size ≤ sizeLine ∧ k = ((y.size : Int) != 0) := e
    subst e'
    exact PySem.W.truthy_bytes (by omega) ⟨H, I.tok _, q⟩
  | ref p =>
    cases rx
    have e' : (∃ xs, SqL X.K H p xs ∧ k = !xs.isEmpty) ∨ (∃ xs, SqT X.K H p xs ∧ k = !xs.isEmpty) ∨ ∃ kvs, H p = some (.dK kvs) ∧ k = !kvs.isEmpty := e
    rcases e' with ⟨xs, hx, e'⟩ | ⟨xs, hx, e'⟩ | ⟨kvs, hx, e'⟩
    · subst e'
      obtain ⟨its, r, pl, hz⟩ := I.list hx
      have hlen := r.length
      exact wpAny_truthy_list pl.isList (by simp only [List.size_toArray]; omega) ⟨H, I.tok _, by rw [isEmpty_of r]; exact q⟩
    · subst e'
      obtain ⟨its, r, pl, hz⟩ := I.tuple hx
      have hlen := r.length
      exact truthy_tuple pl (by simp only [List.size_toArray]; omega) ⟨H, I.tok _, by rw [isEmpty_of r]; exact q⟩
    · subst e'
      obtain ⟨hz, hS, vs, r, m⟩ : kvs.length ≤ sizeLine ∧ (p == sysModules) = false ∧ ∃ vs, KV kvs vs ∧ s.heap.DictOf (mixKind X.prog X.w) p vs := I.hok p _ hx
      have hlen : kvs.length = vs.length := Paired.length r
      exact wpAny_truthy_dict hS m (by omega) ⟨H, I.tok _, by rw [isEmpty_kv r]; exact q⟩
  | _ => exact (show False from e).elim
/-! ### strs and bytes -/
theorem op_add_str : OpR X (binaryOp .Add) (fun x y H Q => ∃ i j, x = .str i ∧ y = .str j ∧ i.length + j.length ≤ sizeLine ∧ Q (.str (i ++ j)) H) := by
  intro pins s σ H x y v u Q I rx ry h
  obtain ⟨i, j, rfl, rfl, hz, q⟩ := h
  obtain ⟨t, rfl⟩ := rx
  obtain ⟨t', rfl⟩ := ry
  exact add_str (fun t' tk => ⟨.str (i ++ j), H, I.tok _, ⟨_, rfl⟩, q⟩) hz
def PlainIxT (b : Expr) : Prop := ∀ o i, subscripted b false o i = operate [o, i] (getItem o i)
/-! ### scalar builtins, by CallR -/
theorem vals1 {x : V} {us : List Value} (r : Vals [x] us) : ∃ u, us = [u] ∧ RelV x u := by
  cases r with
  | cons r1 r2 => cases r2; exact ⟨_, rfl, r1⟩
theorem vals2 {x y : V} {us : List Value} (r : Vals [x, y] us) : ∃ u w', us = [u, w'] ∧ RelV x u ∧ RelV y w' := by
  cases r with
  | cons r1 r2 =>
    cases r2 with
    | cons r3 r4 => cases r4; exact ⟨_, _, rfl, r1, r3⟩
theorem call_int1 : CallR X (.type "int") (fun xs H Q => (∃ i, xs = [.int i] ∧ Q (.int i) H) ∨ ∃ k, xs = [.bl k] ∧ Q (.int (if k then 1 else 0)) H) := by
  intro pins s σ H xs us Q I r h
  rcases h with ⟨i, rfl, q⟩ | ⟨k, rfl, q⟩
  · obtain ⟨u, rfl, t, rfl⟩ := vals1 r
    exact call_int_int ⟨.int i, H, I, ⟨_, rfl⟩, q⟩
  · obtain ⟨u, rfl, r1⟩ := vals1 r
    cases r1
    exact call_int_bool ⟨.int (if k then 1 else 0), H, I.tok _, ⟨_, rfl⟩, q⟩
theorem call_str_int : CallR X (.type "str") (fun xs H Q => ∃ i, xs = [.int i] ∧ i.natAbs.log2 < 1920 ∧ Q (.str (toString i)) H) := by
  intro pins s σ H xs us Q I r h
  obtain ⟨i, rfl, hz, q⟩ := h
  obtain ⟨u, rfl, t, rfl⟩ := vals1 r
  exact PySem.P.str_of_int hz ⟨.str _, H, I.tok _, ⟨_, rfl⟩, q⟩
/-- len of a str, a bytes, a list, a tuple -/
def LenV (K : PySem.W.Frag) (x : V) (H : Hp) (n : Nat) : Prop :=
  match x with
  | .str y => y.length ≤ sizeLine ∧ n = y.length
  | .byt y => y.size ≤ sizeLine ∧ n = y.size
  | .ref p => (∃ xs, SqL K H p xs ∧ n = xs.length) ∨ ∃ xs, SqT K H p xs ∧ n = xs.length
  | _ => False
end
end L2

namespace L2
open PySem PySem.Spec PyProof.Rows

/-! ### an instance, its attributes a map -/
structure ObjM (h : Heap) (x dx C : Addr) (mA : Str → Option Value) : Prop where
  obj : h.get? x = some (PySem.W.instObj C dx)
  ns : h.Ns1 dx mA
  ne : dx ≠ x

theorem lookIn_ns {h : Heap} {dx : Addr} {mA : Str → Option Value} (n : h.Ns1 dx mA) : ∃ od, h.get? dx = some od ∧ ∀ name, PySem.W.lookIn name od = some (mA name) := by
  obtain ⟨o, es, ep, ho, hd, hk, _, hm⟩ := n
  refine ⟨o, ho, fun name => ?_⟩
  have e := hm name
  unfold nsFind findBy at e
  rw [← Array.find?_toList] at e
  unfold PySem.W.lookIn
  rw [hd]
  dsimp only
  split
  · rename_i y q
    rw [q] at e
    exact congrArg some e
  · rename_i q
    rw [q] at e
    have a : es.toList.any (·.refKey) = false := by
      rw [List.any_eq_false]
      intro y hy
      obtain ⟨z, t, hkey⟩ := hk y (Array.mem_toList_iff.mp hy)
      simp [DictEntry.refKey, hkey]
    have a' : ¬ es.toList.any (·.refKey) = true := by rw [a]; exact Bool.false_ne_true
    rw [if_neg a']
    exact congrArg some e

theorem ObjM.look {h : Heap} {x dx C : Addr} {mA : Str → Option Value} (I : ObjM h x dx C mA) : ∃ od, PySem.W.InstAt h x (PySem.W.instObj C dx) C (some od) ∧ ∀ name, PySem.W.lookIn name od = some (mA name) :=
  let ⟨od, ho, hl⟩ := lookIn_ns I.ns
  ⟨od, ⟨I.obj, rfl, rfl, ho⟩, hl⟩

section
variable {prog : Program} {w : World} {A : Around} {E : Value → Shared → Prop} {s : Shared} {K : PySem.W.Frag} {x dx C f : Addr} {mA : Str → Option Value} {name : Str} {v : Value}

end

/-! ### the attributes as a list of pairs -/
def putF (f : Str) (v : V) : List (Str × V) → List (Str × V)
  | [] => [(f, v)]
  | (g, x) :: r => if g = f then (g, v) :: r else (g, x) :: putF f v r
theorem RelO.some_of {v : V} {o : Option Value} (r : RelO (some v) o) : ∃ u, o = some u ∧ RelV v u := by
  cases o with
  | none => exact (show False from r).elim
  | some u => exact ⟨u, rfl, r⟩
theorem handed_of {v : V} {u : Value} (r : RelV v u) : PySem.W.handedIn u = true := by
  cases v with
  | non => cases (show u = Value.none from r); rfl
  | bl b => cases (show u = Value.bool b from r); rfl
  | int i => obtain ⟨t, e⟩ := (show ∃ t, u = Value.int i t from r); cases e; rfl
  | str x => obtain ⟨t, e⟩ := (show ∃ t, u = Value.str x t from r); cases e; rfl
  | byt b => obtain ⟨t, e⟩ := (show ∃ t, u = Value.bytes b t from r); cases e; rfl
  | flt b => obtain ⟨t, e⟩ := (show ∃ t, u = Value.float b t from r); cases e; rfl
  | ref a => cases (show u = Value.ref a from r); rfl
  | ty n => cases (show u = Value.type n from r); rfl

section
variable {P : Program} {w : World} {H H' : Hp} {h h' : Heap} {a C dx : Addr} {fs fs' : List (Str × V)}
theorem ins_get (hok : HOk P w H h) (e : H a = some (.ins C dx fs)) : ∃ mA, ObjM h a dx C mA ∧ (∀ f, RelO (fs.lookup f) (mA f)) ∧ PySem.Within mA (fs.map (·.1)) ∧ fs.length ≤ 1000 ∧ H dx = some (.own a) := by
  obtain ⟨d, z, ne, ob, mA, n, r, q⟩ := (show ObjOk P w H h a (.ins C dx fs) from hok a _ e)
  exact ⟨mA, ⟨ob, n, ne⟩, r, q, z, d⟩
end

/-! ### what of the text a class must have -/
structure Cls (K : PySem.W.Frag) (C : Addr) : Prop where
  pg : PySem.W.plainGet K C Str.empty = true
  hd : PySem.W.hasDictIn K C = true
  po : PySem.W.plainOver K C = true
  sa : PySem.W.findIn K (.ref C) "__setattr__" = some (some (.builtin "object.__setattr__"))
theorem Cls.get {K : PySem.W.Frag} {C : Addr} (c : Cls K C) (f : Str) : PySem.W.plainGet K C f = true := c.pg
/-- no class of it has the name -/
def NoAttr (K : PySem.W.Frag) (C : Addr) (f : Str) : Prop := PySem.W.findIn K (.ref C) f = some none
/-- a constant of the class -/
structure Con (K : PySem.W.Frag) (C : Addr) (f : Str) (v : V) (u : Value) : Prop where
  at_ : PySem.W.findIn K (.ref C) f = some (some u)
  rel : RelV v u
  get : PySem.W.specialIn K u "__get__" = some none
  cp : PySem.W.copiedNames.contains f = false
/-- a method: a plain def of the class or of one above it -/
structure Meth (K : PySem.W.Frag) (C : Addr) (m : Str) (f : Addr) : Prop where
  at_ : PySem.W.findIn K (.ref C) m = some (some (.ref f))
  fn : PySem.W.isFn K (.ref f) = true
  kp : PySem.W.keepIn K (.ref f) = true

section
variable {X : Cx} {pins : List (Addr × Obj)} {σ : St} {H : Hp} {s : Shared} {a C dx : Addr} {fs : List (Str × V)} {f : Str} {v : V} {A : Around} {E : Value → Shared → Prop}

/-- e.f where nothing but the object is asked: through attributeBase (super) and the last hold -/
theorem attr_of {prog : Program} {w : World} {env : Env} {e : Expr} {f : Str} {pos : Pos} {s : Shared} {Q : Value → Shared → Prop} (hb : attributeBase e f env (eval e env) = eval e env)
    (h : wpAny (model prog w) A (eval e env) (fun o s₁ => wpAny (model prog w) A (getAttr o f true) Q E s₁) E s) : wpAny (model prog w) A (eval (.Attribute e f pos) env) Q E s :=
  Attribute_any_ h (by rw [arm_eval_Attribute, hb])
end

/-! ### readings and rules -/
/-- e.f, an attribute of the instance -/
def tFld (K : PySem.W.Frag) (ta : TE) (f : Str) : TE := fun σ H Q => ta σ H fun x H1 => ∃ a C dx fs v, x = .ref a ∧ H1 a = some (.ins C dx fs) ∧ Cls K C ∧ NoAttr K C f ∧ fs.lookup f = some v ∧ Q v H1
/-- e.f, a constant of the class -/
def tCon (K : PySem.W.Frag) (ta : TE) (f : Str) : TE := fun σ H Q => ta σ H fun x H1 => ∃ a C dx fs v u, x = .ref a ∧ H1 a = some (.ins C dx fs) ∧ Cls K C ∧ Con K C f v u ∧ fs.lookup f = none ∧ Q v H1
/-- e.f = value -/
def sFld (K : PySem.W.Frag) (ta tv : TE) (f : Str) : TS := fun D σ H => tv σ H fun y H1 => ta σ H1 fun x H2 => ∃ a C dx fs, x = .ref a ∧ H2 a = some (.ins C dx fs) ∧ Cls K C ∧ NoAttr K C f ∧ fs.length < 1000 ∧
  D.nx σ (upd H2 a (.ins C dx (putF f y fs)))
/-- an augmented operator on two values -/
def InOp (X : Cx) (op : Operator) (rd : V → V → Hp → VK → Prop) : Prop :=
  ∀ (pins : List (Addr × Obj)) (s : Shared) (σ : St) (H : Hp) (x y : V) (u v : Value) (Q : VK), Inv X pins σ H s → RelV x u → RelV y v → rd x y H Q → wpAny (model X.prog X.w) X.A (inplaceOp op u v) (EP X pins σ Q) X.xe s
/-- e.f op= value -/
def sFldAug (K : PySem.W.Frag) (ta tv : TE) (rd : V → V → Hp → VK → Prop) (f : Str) : TS := fun D σ H => ta σ H fun x H1 => ∃ a C dx fs v, x = .ref a ∧ H1 a = some (.ins C dx fs) ∧ Cls K C ∧ NoAttr K C f ∧ fs.lookup f = some v ∧
  tv σ H1 fun y H2 => rd v y H2 fun z H3 => ∃ dx' fs', H3 a = some (.ins C dx' fs') ∧ fs'.length < 1000 ∧ D.nx σ (upd H3 a (.ins C dx' (putF f z fs')))

section
variable {X : Cx} {o e value : Expr} {f : Str} {pos pos' tpos : Pos} {ta tv : TE}
def rAdd : V → V → Hp → VK → Prop := fun x y H Q => ∃ i j, x = .int i ∧ y = .int j ∧ Q (.int (i + j)) H
def rSub : V → V → Hp → VK → Prop := fun x y H Q => ∃ i j, x = .int i ∧ y = .int j ∧ Q (.int (i - j)) H
end

/-! ### isinstance -/
section
variable {X : Cx} {pins : List (Addr × Obj)} {σ : St} {H : Hp} {s : Shared} {A : Around} {E : Value → Shared → Prop} {Q : Value → Shared → Prop} {c : Value} {b : Bool}
/-- the type of a value, as the fragment's deciders take it; for an instance its class -/
inductive TyOf (K : PySem.W.Frag) (H : Hp) : V → Value → Prop where
  | non : TyOf K H .non (.type "NoneType")
  | bl (x : Bool) : TyOf K H (.bl x) (.type "bool")
  | int (i : Int) : TyOf K H (.int i) (.type "int")
  | str (x : Str) : TyOf K H (.str x) (.type "str")
  | flt (x : UInt64) : TyOf K H (.flt x) (.type "float")
  | lst {a : Addr} {xs : List V} (e : H a = some (.lst xs)) : TyOf K H (.ref a) (.type "list")
  | frz {a : Addr} {o : Obj} {xs : List V} (e : H a = some (.frz o (.lst xs))) : TyOf K H (.ref a) (.type "list")
  | tup {a : Addr} {xs : List V} (e : H a = some (.tup xs)) : TyOf K H (.ref a) (.type "tuple")
  | dK {a : Addr} {kvs : List (Key × V)} (e : H a = some (.dK kvs)) : TyOf K H (.ref a) (.type "dict")
  | dT {a : Addr} {kvs : List (List Key × V)} (e : H a = some (.dT kvs)) : TyOf K H (.ref a) (.type "dict")
  | ins {a C dx : Addr} {fs : List (Str × V)} (e : H a = some (.ins C dx fs)) (cl : Cls K C) (ha : PySem.W.findIn K (.ref C) "__class__" = some (some (.builtin "object.__class__")))
      (hn : PySem.W.specialIn K (.builtin "object.__class__") "__get__" = some (some (.builtin "getset_descriptor.__get__"))) (htk : PySem.W.takesIn K (.builtin "object.__class__") = some true)
      (hm : PySem.W.mroIn K C (.type "object") = some true) : TyOf K H (.ref a) (.ref C)
/-- isinstance(x, c) for one class c, a built-in or an own one: kitOne's answer -/
theorem isinst_ok {x : V} {u t : Value} (I : Inv X pins σ H s) (rx : RelV x u) (ty : TyOf X.K H x t) (e : PySem.W.kitOne X.K t c = some b) (h : ∀ tk, Q (.bool b) { s with toks := tk }) :
    wpAny (model X.prog X.w) A (call (.builtin "isinstance") [u, c]) Q E s := by
  cases ty with
  | non => cases (show u = Value.none from rx); exact PySem.W.kia_one PySem.W.kitx_none I.kIn True.intro e (fun z => nomatch z) h
  | bl y => cases (show u = Value.bool y from rx); exact PySem.W.kia_one PySem.W.kitx_bool I.kIn True.intro e (fun z => nomatch z) h
  | int i => obtain ⟨t, q⟩ := (show ∃ t, u = Value.int i t from rx); cases q; exact PySem.W.kia_one PySem.W.kitx_int I.kIn True.intro e (fun z => nomatch z) h
  | str y => obtain ⟨t, q⟩ := (show ∃ t, u = Value.str y t from rx); cases q; exact PySem.W.kia_one PySem.W.kitx_str I.kIn True.intro e (fun z => nomatch z) h
  | flt y => obtain ⟨t, q⟩ := (show ∃ t, u = Value.float y t from rx); cases q; exact PySem.W.kia_one PySem.W.kitx_float I.kIn True.intro e (fun z => nomatch z) h
  | @lst a xs ea =>
    cases (show u = Value.ref a from rx)
    obtain ⟨_, _, n, _, h1⟩ := (show ObjOk X.prog X.w H s.heap a (.lst xs) from I.hok a _ ea)
    exact PySem.W.kia_one PySem.W.kitx_list I.kIn ⟨_, h1, rfl⟩ e (fun z => nomatch z) h
  | @frz a ob xs ea =>
    cases (show u = Value.ref a from rx)
    obtain ⟨_, _, _, n, _, h1⟩ := (show ObjOk X.prog X.w H s.heap a (.frz ob (.lst xs)) from I.hok a _ ea)
    exact PySem.W.kia_one PySem.W.kitx_list I.kIn ⟨_, h1, rfl⟩ e (fun z => nomatch z) h
  | @tup a xs ea =>
    cases (show u = Value.ref a from rx)
    obtain ⟨_, _, _, p⟩ := (show ObjOk X.prog X.w H s.heap a (.tup xs) from I.hok a _ ea)
    obtain ⟨o, h1, h2, _⟩ := p
    exact PySem.W.kia_one PySem.W.kitx_tuple I.kIn ⟨o, h1, h2⟩ e (fun z => nomatch z) h
  | @dK a kvs ea =>
    cases (show u = Value.ref a from rx)
    obtain ⟨_, _, vs, _, p⟩ := (show ObjOk X.prog X.w H s.heap a (.dK kvs) from I.hok a _ ea)
    obtain ⟨o, es, ep, h1, h2, _⟩ := p
    exact PySem.W.kia_one PySem.W.kitx_dict I.kIn ⟨o, h1, h2.1⟩ e (fun z => nomatch z) h
  | @dT a kvs ea =>
    cases (show u = Value.ref a from rx)
    obtain ⟨_, _, xs, _, o, es, ep, h1, h2, _⟩ := (show ObjOk X.prog X.w H s.heap a (.dT kvs) from I.hok a _ ea)
    exact PySem.W.kia_one PySem.W.kitx_dict I.kIn ⟨o, h1, h2.1⟩ e (fun z => nomatch z) h
  | @ins a C dx fs ea cl ha hn htk hm =>
    cases (show u = Value.ref a from rx)
    obtain ⟨mA, O, _⟩ := ins_get I.hok ea
    obtain ⟨od, J, _⟩ := O.look
    exact PySem.W.kia_one (PySem.W.kitx_own (cl.get _) cl.hd ha hn htk hm) I.kIn J e (fun z => nomatch z) h
end
end L2

namespace L2
open PySem PySem.Spec PyProof.Rows

/-! ### room -/
structure Room (k : Nat) (A : Around) : Prop where
  hd : A.handled = none
  dp : A.depth + 3 * k + 5 < recursionLimit
  un : A.units + 16 * k + 200 < cLine
theorem Room.mono {j k : Nat} {A : Around} (r : Room k A) (h : j ≤ k) : Room j A := ⟨r.hd, by have := r.dp; omega, by have := r.un; omega⟩
theorem Room.deeper {k : Nat} {A : Around} (r : Room (k + 1) A) (env : Env) : Room k (A.deeper env) :=
  ⟨r.hd, by have := r.dp; show A.depth + 1 + 3 * k + 5 < _; omega, by have := r.un; show A.units + 3 + 16 * k + 200 < _; omega⟩
theorem make_depth {A : Around} {C : Addr} {us : List Value} {kw : List (Str × Value)} : (A.under (.builtin "type.__call__" ⟨.ref C :: us, kw⟩)).depth = A.depth + 1 := by
  first | rfl | simp [Around.under, Code.weight, Code.isCreation, Code.isGuard, Code.isCaller, Code.frames, Code.isFrame, guardIds]
theorem make_units {A : Around} {C : Addr} {us : List Value} {kw : List (Str × Value)} : (A.under (.builtin "type.__call__" ⟨.ref C :: us, kw⟩)).units = A.units + 1 := by
  first | rfl | simp [Around.under, Code.cUnits, Code.frames, Code.isFrame]
theorem Room.make {k : Nat} {A : Around} (r : Room (k + 1) A) (C : Addr) (us : List Value) (kw : List (Str × Value)) : Room k (A.under (.builtin "type.__call__" ⟨.ref C :: us, kw⟩)) :=
  ⟨r.hd, by have := r.dp; rw [make_depth]; omega, by have := r.un; rw [make_units]; omega⟩
theorem Room.depth {k : Nat} {A : Around} (r : Room k A) : A.depth < recursionLimit := by have := r.dp; omega
/-! ### argument lists and displays -/
def tNil : TA := fun _ H Q => Q [] H
def tCons (ta : TE) (tr : TA) : TA := fun σ H Q => ta σ H fun x H1 => tr σ H1 fun xs H2 => Q (x :: xs) H2
section
variable {X : Cx} {e : Expr} {es : List Expr} {te : TE} {t : TA} {pos : Pos}
theorem pa_nil : PA X [] tNil := fun _ _ _ _ H Q I h => Calls.spliced_nil ⟨[], H, I, .nil, h⟩
theorem pa_cons (ha : PE X e te) (hr : PA X es t) (hs : starEach (e :: es) X.env = (false, eval e X.env) :: starEach es X.env := by rfl) : PA X (e :: es) (tCons te t) := by
  intro pos pins s σ H Q I h
  rw [hs]
  show wpAny _ _ (spliced ((false, eval e X.env) :: backTo pos (starEach es X.env))) _ _ s
  refine Calls.spliced_cons (thn (ha pins s σ H _ I h) fun u s1 ⟨x, H1, I1, r1, q1⟩ => ?_)
  exact thn (hr pos pins s1 σ H1 _ I1 q1) fun us s2 ⟨xs, H2, I2, r2, q2⟩ => ⟨x :: xs, H2, I2, .cons r1 r2, q2⟩

/-- a tuple, a list of written items -/
def tTup (t : TA) : TE := fun σ H Q => t σ H fun xs H1 => xs.length ≤ sizeLine ∧ ∀ p, H1 p = none → Q (.ref p) (upd H1 p (.tup xs))
def tLst (t : TA) : TE := fun σ H Q => t σ H fun xs H1 => xs.length ≤ sizeLine ∧ ∀ p, H1 p = none → Q (.ref p) (upd H1 p (.lst xs))
theorem pe_tup {x1} (h : PA X es t) : PE X (.Tuple es x1 pos) (tTup t) := by
  intro pins s σ H Q I hq
  refine wpAny_Tuple_spliced (thn (h pos pins s σ H _ I hq) fun us s1 ⟨xs, H1, I1, r, z, q⟩ => ⟨by rw [← r.length]; exact z, ?_⟩)
  have hf : H1 s1.heap.objs.size = none := I1.hok.fresh (Nat.le_refl _)
  refine ⟨.ref s1.heap.objs.size, upd H1 s1.heap.objs.size (.tup xs), I1.laid (t' := s1.toks) (fun b u e => Heap.get?_push_of_some _ e) (Nat.le_refl _) ?_, rfl, q _ hf⟩
  exact ⟨z, us, r, ⟨_, Heap.get?_push_size _ rfl, rfl, _, rfl⟩⟩
theorem pe_lst (h : PA X es t) : PE X (.List es pos) (tLst t) := by
  intro pins s σ H Q I hq
  refine wpAny_List_spliced (thn (h pos pins s σ H _ I hq) fun us s1 ⟨xs, H1, I1, r, z, q⟩ => ⟨by rw [← r.length]; exact z, ?_⟩)
  have hf : H1 s1.heap.objs.size = none := I1.hok.fresh (Nat.le_refl _)
  refine ⟨.ref s1.heap.objs.size, upd H1 s1.heap.objs.size (.lst xs), I1.laid (t' := s1.toks) (fun b u e => Heap.get?_push_of_some _ e) (Nat.le_refl _) ?_, rfl, q _ hf⟩
  exact ⟨z, us, 0, r, Heap.get?_push_size _ rfl⟩
end

/-! ### what a def promises -/
/-- a def's promise: the bound arguments in the parameters' order, the heap, the wanted end, the wanted exception -/
abbrev Sp := List V → Hp → VK → XK → Prop
/-- how an exception lies behind a call (file 08 gives it): the callers' frames, abstract heap and state ahead of the call, the wish, the exception, the state -/
abbrev CXT := List Env → Hp → Shared → XK → Value → Shared → Prop

/-- the state at a call -/
structure Env0 (P : Program) (w : World) (K : PySem.W.Frag) (mg : Str → Option Value) (base : Heap) (A : Around) (outer : List Env) (s : Shared) (H : Hp) : Prop where
  frames : A.frames = some outer
  mod : Mod K mg base
  bs : ∀ b o, base.get? b = some o → s.heap.get? b = some o ∧ H b = none
  bsz : base.objs.size ≤ s.heap.objs.size
  funs : s.heap.FunFrames base outer
  frf : ∀ b ∈ frs outer, H b = none
  hok : HOk P w H s.heap
  bare : AllBare s.gens
/-- a call's end -/
def CE (outer : List Env) (P : Program) (w : World) (H : Hp) (s : Shared) (Q : VK) (u : Value) (s' : Shared) : Prop :=
  ∃ v H', s'.os = s.os ∧ AllBare s'.gens ∧ Un (frs outer) [] H H' s.heap s'.heap ∧ HOk P w H' s'.heap ∧ RelV v u ∧ Q v H'
def CR (CX : CXT) (outer : List Env) (P : Program) (w : World) (H : Hp) (s : Shared) (Q : VK) (E : XK) (r : Result) (s' : Shared) : Prop :=
  match r with
  | .ok (.ret u) => CE outer P w H s Q u s'
  | .ok _ => False
  | .error e => CX outer H s E e s'
structure FnOk (P : Program) (w : World) (K : PySem.W.Frag) (mg : Str → Option Value) (base : Heap) (CX : CXT) (k : Nat) (f : Addr) (fd : FuncData) (ps : List Str) (sp : Sp) : Prop where
  len : ∀ vs H Q E, sp vs H Q E → vs.length = ps.length
  run : ∀ (A : Around) (outer : List Env) (s : Shared) (H : Hp) (args : Args) (us : List Value) (vs : List V) (Q : VK) (E : XK), Room k A → Env0 P w K mg base A outer s H → BindsTo s fd args (ps.zip us) → Vals vs us → sp vs H Q E →
    codeAny (model P w) A (.call (.ref f) args) (CR CX outer P w H s Q E) s
theorem FnOk.mono {P : Program} {w : World} {K : PySem.W.Frag} {mg : Str → Option Value} {base : Heap} {CX : CXT} {j k : Nat} {f : Addr} {fd : FuncData} {ps : List Str} {sp : Sp} (F : FnOk P w K mg base CX j f fd ps sp) (h : j ≤ k) :
    FnOk P w K mg base CX k f fd ps sp := ⟨F.len, fun A outer s H args us vs Q E hr => F.run A outer s H args us vs Q E (hr.mono h)⟩
theorem Env0.make {P : Program} {w : World} {K : PySem.W.Frag} {mg : Str → Option Value} {base : Heap} {A : Around} {outer : List Env} {s : Shared} {H : Hp} (e : Env0 P w K mg base A outer s H) (C : Addr) (us : List Value) (kw : List (Str × Value)) :
    Env0 P w K mg base (A.under (.builtin "type.__call__" ⟨.ref C :: us, kw⟩)) outer s H := ⟨by first | exact e.frames | (simpa [Around.under, Code.envs, Code.isFrame, pushEnvs] using e.frames), e.mod, e.bs, e.bsz, e.funs, e.frf, e.hok, e.bare⟩
section
variable {X : Cx} {pins : List (Addr × Obj)} {σ : St} {H : Hp} {s s' : Shared}
/-- from a body: what a callee wants -/
theorem Inv.env0 (I : Inv X pins σ H s) : Env0 X.prog X.w X.K X.mg X.base X.A X.stack s H :=
  ⟨I.ok.frames, I.ok.mod, I.bs, Nat.le_trans I.ok.bsz I.sz, I.stack, I.stkFree, I.hok, I.bare⟩
/-- behind a call -/
theorem Inv.after {Q : VK} {u : Value} (I : Inv X pins σ H s) (h : CE X.stack X.prog X.w H s Q u s') : EP X pins σ Q u s' := by
  obtain ⟨v, H', os, bare, un, hok, r, q⟩ := h
  obtain ⟨hh, g, d, t, os'⟩ := s'
  obtain rfl : os' = s.os := os
  exact ⟨v, H', I.call (h' := hh) (g' := g) (d' := d) (t' := t) (ch := []) un hok bare (fun b z => absurd z (by simp)), r, q⟩
end

/-! ### calls -/
/-- f(..): the written arguments, then the defaults dvs; E: what is wanted of an exception -/
def tCall (sp : Sp) (dvs : List V) (E : XK) (t : TA) : TE := fun σ H Q => t σ H fun vs H1 => sp (vs ++ dvs) H1 Q E
/-- o.m(..) of an instance of the class at C -/
def tMeth (C : Addr) (m : Str) (sp : Sp) (dvs : List V) (E : XK) (ta : TE) (t : TA) : TE := fun σ H Q => ta σ H fun x H1 => ∃ a dx fs, x = .ref a ∧ H1 a = some (.ins C dx fs) ∧ fs.lookup m = none ∧
  t σ H1 fun vs H2 => sp (x :: (vs ++ dvs)) H2 Q E
/-- C(..): a new instance and its dict, then __init__ -/
def tMake (C : Addr) (sp : Sp) (dvs : List V) (E : XK) (t : TA) : TE := fun σ H Q => t σ H fun vs H1 => ∀ x dx, H1 x = none → H1 dx = none → dx ≠ x →
  sp (.ref x :: (vs ++ dvs)) (upd (upd H1 dx (.own x)) x (.ins C dx [])) (fun v H2 => v = .non ∧ Q (.ref x) H2) E

/-- how the parameters are bound: us the positional arguments, kw the keywords' values by name, ds the defaults that fill up -/
def Binds (K : PySem.W.Frag) (fd : FuncData) (ps : List Str) (ds : List Value) : Prop :=
  ∀ (s : Shared) (us : List Value), K.In s.heap → (us ++ ds).length = ps.length → BindsTo s fd ⟨us, []⟩ (ps.zip (us ++ ds))
/-- every parameter is given -/
theorem Binds.all {K : PySem.W.Frag} {fd : FuncData} {ps : List Str} (h : ∀ us : List Value, us.length = ps.length → bindArgs fd ⟨us, []⟩ = pure (ps.zip us)) : Binds K fd ps [] := fun s us _ hl => by
  rw [List.append_nil] at hl ⊢
  exact .of_eq (h us hl)

/-- an exception of a callee reaches what this body wants of exceptions -/
def Passes (CX : CXT) (X : Cx) (E : XK) : Prop := ∀ (pins : List (Addr × Obj)) (σ : St) (H : Hp) (s : Shared) (e : Value) (s' : Shared), Inv X pins σ H s → CX X.stack H s E e s' → X.xe e s'

section
variable {X : Cx} {CX : CXT} {k : Nat} {f C : Addr} {fd : FuncData} {ps : List Str} {sp : Sp} {dvs : List V} {ds : List Value} {E : XK} {x m : Str} {p pos apos : Pos} {e o : Expr} {es : List Expr} {ta : TE} {t : TA}

/-- the callee runs -/
theorem run_fn {pins : List (Addr × Obj)} {σ : St} {H : Hp} {s : Shared} {Q : VK} {us : List Value} {vs : List V} (F : FnOk X.prog X.w X.K X.mg X.base CX k f fd ps sp) (hr : Room k X.A) (hb : Binds X.K fd ps ds) (hd : Vals dvs ds) (hx : Passes CX X E)
    (I : Inv X pins σ H s) (r : Vals vs us) (h : sp (vs ++ dvs) H Q E) : wpAny (model X.prog X.w) X.A (call (.ref f) us) (EP X pins σ Q) X.xe s := by
  have r2 : Vals (vs ++ dvs) (us ++ ds) := r.append hd
  have hl : (us ++ ds).length = ps.length := by rw [← r2.length]; exact F.len _ _ _ _ h
  refine wpAny_call (codeAny_mono (F.run X.A X.stack s H ⟨us, []⟩ (us ++ ds) (vs ++ dvs) Q E hr I.env0 (hb s us I.kIn hl) r2 h) fun r s' hq => ?_)
  cases r with
  | error e => exact hx pins σ H s e s' I hq
  | ok fl =>
    cases fl with
    | ret u => exact I.after hq
    | next => exact False.elim hq
    | brk => exact False.elim hq
    | cont => exact False.elim hq

theorem pe_call (F : FnOk X.prog X.w X.K X.mg X.base CX k f fd ps sp) (hr : Room k X.A) (hg : Gl X x) (hm : X.mg x = some (.ref f)) (hk : PySem.W.keepIn X.K (.ref f) = true) (hb : Binds X.K fd ps ds) (hd : Vals dvs ds) (hx : Passes CX X E)
    (ha : PA X (e :: es) t) (hdb : (x == ("__debug__" : Str)) = false := by decide) (he : starEach (e :: es) X.env = (false, eval e X.env) :: starEach es X.env := by rfl) (hpl : (backTo pos (starEach es X.env)).any (·.1) = false := by rfl) :
    PE X (.Call (.Name x p) (e :: es) [] pos) (tCall sp dvs E t) := by
  intro pins s σ H Q I h
  refine wpAny_Call_Name_kw (ld_glob I hg hm ?_ hdb)
  refine PySem.W.callWith_K (h₀ := X.base) I.ok.mod.kin hk (thn (ha pos pins s σ H _ I h) fun us s1 ⟨vs, H1, I1, r, q⟩ => ⟨I1.kIn, ?_⟩) he hpl
  exact run_fn F hr hb hd hx I1 r q
/-- what a class must have to be made -/
structure Mk (K : PySem.W.Frag) (C f : Addr) : Prop where
  makes : PySem.W.makesIn K C = true
  init : PySem.W.findIn K (.ref C) "__init__" = some (some (.ref f))
  fn : PySem.W.isFn K (.ref f) = true
  kp : PySem.W.keepIn K (.ref C) = true

end

/-! ### keywords -/
/-- the values of the keywords, from the left -/
def PK (X : Cx) (kws : List Keyword) (t : TA) : Prop :=
  ∀ (pos : Pos) (pins : List (Addr × Obj)) (s : Shared) (σ : St) (H : Hp) (Q : List V → Hp → Prop), Inv X pins σ H s → t σ H Q → wpAny (model X.prog X.w) X.A (evalAll ((backToKw pos (keywordEach kws X.env)).map (·.2))) (AP X pins σ Q) X.xe s
section
variable {X : Cx} {CX : CXT} {k : Nat} {f C : Addr} {fd : FuncData} {ps ks : List Str} {sp : Sp} {E : XK} {x m : Str} {p pos apos kpos : Pos} {e o : Expr} {es : List Expr} {kws : List Keyword} {te ta : TE} {t tk : TA} {nm : Option Str}
/-- how a call with keywords binds: g puts the positional values us and the keywords' values ws (names ks) in the parameters' order, defaults among them -/
structure KBinds (K : PySem.W.Frag) (fd : FuncData) (ps ks : List Str) (g : List Value → List Value → List Value) (gV : List V → List V → List V) : Prop where
  to : ∀ (s : Shared) (us ws : List Value), K.In s.heap → (g us ws).length = ps.length → BindsTo s fd ⟨us, ks.zip ws⟩ (ps.zip (g us ws))
  rel : ∀ {vs : List V} {us : List Value} {zs : List V} {ws : List Value}, Vals vs us → Vals zs ws → Vals (gV vs zs) (g us ws)
def tCallK (sp : Sp) (gV : List V → List V → List V) (E : XK) (t tk : TA) : TE := fun σ H Q => t σ H fun vs H1 => tk σ H1 fun zs H2 => sp (gV vs zs) H2 Q E
variable {g : List Value → List Value → List Value} {gV : List V → List V → List V}
end

/-! ### a def's body keeps its promise -/
/-- names: the parameters first -/
structure FnScope (N P : List Str) (sc : Scope) : Prop where
  kind : sc.kind = .function
  co : sc.isCoroutine = false
  gen : sc.isGenerator = false
  nd : N.Nodup
  pre : N.take P.length = P
  par : ∀ x ∈ P, sc.names.lookup x = some .local ∨ sc.names.lookup x = some .cell
  nofree : ∀ y ∈ sc.names, y.2 ≠ .free

theorem bindL_out {kindOf : Str → Option NameKind} {x : Str} : ∀ {binds : List (Str × Value)} {m : Str → Option Value}, (∀ v, (x, v) ∉ binds) → bindL kindOf binds m x = m x
  | [], _, _ => rfl
  | (n, v) :: r, m, h => by
    unfold bindL
    rw [bindL_out fun w hw => h w (List.mem_cons_of_mem _ hw)]
    split
    · have : x ≠ n := by rintro rfl; exact h v List.mem_cons_self
      simp [this]
    · rfl
theorem bindC_out {kindOf : Str → Option NameKind} {x : Str} : ∀ {binds : List (Str × Value)} {m : Str → Option Value}, (∀ v, (x, v) ∉ binds) → bindC kindOf binds m x = m x
  | [], _, _ => rfl
  | (n, v) :: r, m, h => by
    unfold bindC
    rw [bindC_out fun w hw => h w (List.mem_cons_of_mem _ hw)]
    split
    · rfl
    · have : x ≠ n := by rintro rfl; exact h v List.mem_cons_self
      simp [this]
theorem bindL_get {kindOf : Str → Option NameKind} {x : Str} {v : Value} : ∀ {P : List Str} {vs : List Value} {i : Nat} {m : Str → Option Value}, P.Nodup → P[i]? = some x → vs[i]? = some v → kindOf x = some .local →
    bindL kindOf (P.zip vs) m x = some v
  | [], _, _, _, _, h, _, _ => by simp at h
  | _ :: _, [], _, _, _, _, h, _ => by simp at h
  | p :: P, w :: vs, 0, m, nd, h1, h2, hk => by
    simp at h1 h2; subst h1; subst h2
    show bindL kindOf ((p, w) :: P.zip vs) m p = _
    unfold bindL
    rw [bindL_out fun v hv => (List.nodup_cons.mp nd).1 (List.of_mem_zip hv).1, if_pos hk]
    simp
  | p :: P, w :: vs, i + 1, m, nd, h1, h2, hk => by
    show bindL kindOf ((p, w) :: P.zip vs) m x = _
    unfold bindL
    exact bindL_get (i := i) (List.nodup_cons.mp nd).2 (by simpa using h1) (by simpa using h2) hk
theorem bindC_get {kindOf : Str → Option NameKind} {x : Str} {v : Value} : ∀ {P : List Str} {vs : List Value} {i : Nat} {m : Str → Option Value}, P.Nodup → P[i]? = some x → vs[i]? = some v → kindOf x ≠ some .local →
    bindC kindOf (P.zip vs) m x = some v
  | [], _, _, _, _, h, _, _ => by simp at h
  | _ :: _, [], _, _, _, _, h, _ => by simp at h
  | p :: P, w :: vs, 0, m, nd, h1, h2, hk => by
    simp at h1 h2; subst h1; subst h2
    show bindC kindOf ((p, w) :: P.zip vs) m p = _
    unfold bindC
    rw [bindC_out fun v hv => (List.nodup_cons.mp nd).1 (List.of_mem_zip hv).1, if_neg hk]
    simp
  | p :: P, w :: vs, i + 1, m, nd, h1, h2, hk => by
    show bindC kindOf ((p, w) :: P.zip vs) m x = _
    unfold bindC
    exact bindC_get (i := i) (List.nodup_cons.mp nd).2 (by simpa using h1) (by simpa using h2) hk

/-- the names' values at the entry -/
def start (N : List Str) (vs : List V) : St := vs.map some ++ List.replicate (N.length - vs.length) none

/-- the context of a def's body, at its entry; an exception leaves the frame, then lies as CX says -/
def cxOf (CX : CXT) (P : Program) (w : World) (K : PySem.W.Frag) (mg : Str → Option Value) (base : Heap) (N : List Str) (qual : Str) (scope : Scope) (f : Addr) (cd : Value) (A : Around) (outer : List Env) (s : Shared) (H : Hp) (E : XK) : Cx where
  prog := P
  w := w
  K := K
  mg := mg
  base := base
  A := A.deeper (envOfC qual scope s.heap.objs.size f cd)
  N := N
  s₀ := s
  H₀ := H
  env := envOfC qual scope s.heap.objs.size f cd
  outer := outer
  stack := envOfC qual scope s.heap.objs.size f cd :: outer
  ex := []
  calm := true
  fn := fun _ => true
  pn := []
  xe := fun e s' => wpAny (model P w) (A.deeper (envOfC qual scope s.heap.objs.size f cd)) (leaving (envOfC qual scope s.heap.objs.size f cd) e) (fun _ s'' => CX outer H s E e s'') (fun e' s'' => CX outer H s E e' s'') s'

theorem cell_has {sc : Scope} {n : Nat} {x : Str} (h : sc.names.lookup x = some .cell) : ∃ c, (cellsFrom n sc.names []).lookup x = some c := by
  have q := PySem.W.cellsFrom_some sc.names n [] (.inl h)
  exact Option.isSome_iff_exists.mp q

theorem inv_start {CX : CXT} {P : Program} {w : World} {K : PySem.W.Frag} {mg : Str → Option Value} {base : Heap} {N ps : List Str} {qual : Str} {scope : Scope} {f : Addr} {cd : Value} {A : Around} {outer : List Env} {s s1 : Shared} {H : Hp} {E : XK} {us : List Value} {vs : List V}
    (S : FnScope N ps scope) (hd : A.handled = none) (e0 : Env0 P w K mg base A outer s H) (hl : vs.length = ps.length) (r : Vals vs us)
    (x : InCallC s s.heap.objs.size (bindL (envOfC qual scope s.heap.objs.size f cd).kindOf (ps.zip us) fun _ => none) (cellsFrom (s.heap.objs.size + 1) scope.names []) (bindC (envOfC qual scope s.heap.objs.size f cd).kindOf (ps.zip us) fun _ => none) s1) :
    Inv (cxOf CX P w K mg base N qual scope f cd A outer s H E) [] (start N vs) H s1 := by
  have hpl : ps.length ≤ N.length := by have := congrArg List.length S.pre; rw [List.length_take] at this; omega
  obtain ⟨h1, tk, rfl, hk⟩ := x.done
  have noA : ∀ b : Addr, b ∉ (cxOf CX P w K mg base N qual scope f cd A outer s H E).ex := fun b z => absurd (show b ∈ ([] : List Addr) from z) (by simp)
  refine ⟨⟨e0.mod, S.kind, rfl, rfl, Nat.le_refl _, fun y z c h1 h2 => ?_, fun y hy => ?_, fun y c _ h => ?_, fun _ => hd, Around.frames_deeper e0.frames, .inr ⟨rfl, rfl⟩, fun b z => absurd z (noA b), e0.bs, e0.bsz, fun b _ _ => noA b, fun b z => absurd z (noA b), e0.funs, e0.frf⟩,
    rfl, e0.bare, Un.kept hk, ⟨_, x.toInCall.ns, fun i y v h1 h2 h3 => ?_⟩, fun y c h => ⟨_, x.cell y c h⟩, e0.hok.fresh (Nat.le_refl _), fun y c h => ?_, fun p hp => absurd (show p ∈ ([] : List (Addr × Obj)) from hp) (by simp), e0.hok.kept hk, ?_⟩
  · exact name_of_addr x.apart (PySem.mem_of_lookup h1) (PySem.mem_of_lookup h2)
  · have hy : scope.names.lookup y = some .cell ∨ scope.names.lookup y = some .free := hy
    rcases hy with hy | hy
    · exact cell_has hy
    · exact absurd rfl (S.nofree _ (PySem.mem_of_lookup hy))
  · exact Nat.le_of_lt (x.above y c (PySem.mem_of_lookup h))
  · have hi : i < vs.length := by
      unfold start at h2
      by_cases hi : i < vs.length
      · exact hi
      · rw [List.getElem?_append_right (by simpa using hi)] at h2
        rw [List.getElem?_replicate] at h2
        split at h2 <;> cases h2
    have ha : vs[i]? = some v := by
      unfold start at h2
      rw [List.getElem?_append_left (by simpa using hi), List.getElem?_map] at h2
      cases e : vs[i]? with
      | none => rw [e] at h2; cases h2
      | some a => rw [e] at h2; cases h2; rfl
    obtain ⟨u, hu, rv⟩ := r.get ha
    have hp : ps[i]? = some y := by
      rw [← S.pre, List.getElem?_take_of_lt (by omega)]; exact h1
    have ndP : ps.Nodup := by rw [← S.pre]; exact S.nd.sublist (List.take_sublist _ _)
    refine ⟨u, rv, ?_⟩
    rcases S.par y (List.mem_of_getElem? hp) with k | k
    · exact .inl ⟨k, bindL_get ndP hp hu k⟩
    · obtain ⟨c, e⟩ := cell_has (n := s.heap.objs.size + 1) k
      refine .inr ⟨.inl k, c, e, ?_⟩
      have q := x.cell y c e
      rw [bindC_get ndP hp hu (by show scope.names.lookup y ≠ _; rw [k]; decide)] at q
      exact q
  · exact e0.hok.fresh (Nat.le_of_lt (x.above y c (PySem.mem_of_lookup h)))
  · unfold start
    show _ = N.length
    rw [List.length_append, List.length_map, List.length_replicate]
    omega

/-- THE RULE: a def (or a method) of the text, by its body. The body's reading t is chosen for each entry; it is run at the parameters' values -/
theorem fn_of {CX : CXT} {P : Program} {w : World} {K : PySem.W.Frag} {mg : Str → Option Value} {base : Heap} {k : Nat} {f : Addr} {name qual : Str} {params : Arguments} {body : List Stmt} {scope : Scope} {dV kV doc pm cdv ct oc : Value} {an od : Option Addr}
    {osl : Array (Option Value)} {N ps : List Str} {sp : Sp} (lk : K.lookup f = some ⟨oc, od, .func (PySem.W.fnOf name qual params body scope dV kV doc pm an cdv ct), osl⟩) (hcd : PySem.W.codeIn K cdv qual = true) (S : FnScope N ps scope)
    (len : ∀ vs H Q E, sp vs H Q E → vs.length = ps.length)
    (hbody : ∀ (A : Around) (outer : List Env) (s : Shared) (H : Hp) (vs : List V) (Q : VK) (E : XK), Room k (A.deeper (envOfC qual scope s.heap.objs.size f cdv)) → sp vs H Q E →
      ∃ t, PSs (cxOf CX P w K mg base N qual scope f cdv A outer s H E) body t ∧ t { nx := fun _ H' => Q .non H', rt := Q } (start N vs) H) :
    FnOk P w K mg base CX (k + 1) f (PySem.W.fnOf name qual params body scope dV kV doc pm an cdv ct) ps sp := by
  refine ⟨len, fun A outer s H args us vs Q E hr e0 hb r hsp => ?_⟩
  have hl := len _ _ _ _ hsp
  have KX : K.In s.heap := e0.mod.kin.keeps fun b o e => (e0.bs b o e).1
  have lim : s.heap.NoLimit := e0.mod.nolimit.keeps fun b o e => (e0.bs b o e).1
  have hkind : ∀ y ∈ ps.zip us, scope.names.lookup y.1 = some .local ∨ (scope.names.lookup y.1 = some .cell ∧ ((cellsFrom (s.heap.objs.size + 1) scope.names []).lookup y.1).isSome = true) := fun ⟨n, v⟩ hy => by
    rcases S.par n (List.of_mem_zip hy).1 with q | q
    · exact .inl q
    · exact .inr ⟨q, PySem.W.cellsFrom_some _ _ _ (.inl q)⟩
  refine codeAny_call_function hr.depth (KX _ _ lk) rfl S.co S.gen rfl (PySem.W.codeRec_of KX hcd) (hb _ _ _ _ ?_)
  refine wpAny_newFunctionEnv_cells S.kind hkind fun env he s1 x => ?_
  subst he
  refine ⟨lim.keeps x.toInCall.keep, codeAny_func ?_⟩
  obtain ⟨t, ht, hq⟩ := hbody A outer s H vs Q E (hr.deeper _) hsp
  have I : Inv (cxOf CX P w K mg base N qual scope f cdv A outer s H E) [] (start N vs) H s1 := inv_start S hr.hd e0 hl r x
  refine wpAny_mono (ht [] s1 (start N vs) H _ I hq) (fun fl s' hs => ?_) fun e s' hs => hs
  have fin : ∀ {σ' : St} {H' : Hp} {v : V} {u : Value}, Inv (cxOf CX P w K mg base N qual scope f cdv A outer s H E) [] σ' H' s' → RelV v u → Q v H' → CE outer P w H s Q u s' :=
    fun {σ' H' v u} J rv q => ⟨v, H', J.os, J.bare, J.base, J.hok, rv, q⟩
  cases fl with
  | ret u =>
    obtain ⟨v, σ', H', J, rv, q⟩ := hs
    exact fin J rv q
  | next =>
    obtain ⟨σ', H', J, q⟩ := hs
    exact fin (v := V.non) (u := Value.none) J rfl q
  | brk =>
    obtain ⟨_, _, _, q⟩ := hs
    exact False.elim q
  | cont =>
    obtain ⟨_, _, _, q⟩ := hs
    exact False.elim q
end L2

namespace L2
open PySem PySem.Spec PyProof.Rows
section
variable {X : Cx} {x : Str} {p pos : Pos} {e : Expr} {es : List Expr} {t : TA} {id T : String} {r : List V → Hp → VK → Prop}

def tCB (r : List V → Hp → VK → Prop) (t : TA) : TE := fun σ H Q => t σ H fun vs H1 => r vs H1 Q
/-- f(e, ..), f a built-in function -/
theorem pe_callB (hc : CallR X (.builtin id) r) (hg : Gl X x) (hm : X.mg x = none) (hv : bootBuiltins x = some (.builtin id)) (ha : PA X (e :: es) t) (hn : x ≠ "__name__" := by decide) (hdb : (x == ("__debug__" : Str)) = false := by decide)
    (he : starEach (e :: es) X.env = (false, eval e X.env) :: starEach es X.env := by rfl) (hpl : (backTo pos (starEach es X.env)).any (·.1) = false := by rfl) : PE X (.Call (.Name x p) (e :: es) [] pos) (tCB r t) := by
  intro pins s σ H Q I h
  refine wpAny_Call_Name_kw (ld_blt I hg hm hv ?_ hn hdb)
  exact PyProof.Rows.callWith_builtin1 (thn (ha pos pins s σ H _ I h) fun us s1 ⟨vs, H1, I1, r1, q1⟩ => hc pins s1 σ H1 vs us Q I1 r1 q1) he hpl
/-- T(e, ..), T a built-in type -/
theorem pe_callTy (hc : CallR X (.type T) r) (hg : Gl X x) (hm : X.mg x = none) (hv : bootBuiltins x = some (.type T)) (ha : PA X (e :: es) t) (hn : x ≠ "__name__" := by decide) (hdb : (x == ("__debug__" : Str)) = false := by decide)
    (he : starEach (e :: es) X.env = (false, eval e X.env) :: starEach es X.env := by rfl) (hpl : (backTo pos (starEach es X.env)).any (·.1) = false := by rfl) : PE X (.Call (.Name x p) (e :: es) [] pos) (tCB r t) := by
  intro pins s σ H Q I h
  refine wpAny_Call_Name_kw (ld_blt I hg hm hv ?_ hn hdb)
  exact PyProof.Rows.callWith_type1 (thn (ha pos pins s σ H _ I h) fun us s1 ⟨vs, H1, I1, r1, q1⟩ => hc pins s1 σ H1 vs us Q I1 r1 q1) he hpl
end
end L2

namespace HT
open PySem PyProof.Rows

/-- t < u of tuples of ints -/
def lexLt : List Int → List Int → Bool
  | [], [] => false
  | [], _ :: _ => true
  | _ :: _, [] => false
  | x :: xs, y :: ys => if x = y then lexLt xs ys else decide (x < y)
section
open PySem.SeqAt
open PySem.AutoSeq1 (wpAny_loadPart')
open PySem.MeetsSeq PySem.MeetsSeq2 PySem.MeetsSeq3

end

section
variable {prog : Program} {w : World} {A : Around} {E : Value → Shared → Prop} {s : Shared}

/-- t + u, t not empty -/
theorem cat_tup {t b : Addr} {vs ws : List Value} {Q : Value → Shared → Prop} (ht : IsTup s.heap t vs.toArray) (hb : IsTup s.heap b ws.toArray) (hv : vs ≠ [])
    (h1 : ws = [] → Q (.ref t) s) (h2 : ws ≠ [] → Q (.ref s.heap.objs.size) { s with heap := s.heap.push { cls := .type "tuple", data := .seq (vs ++ ws).toArray } })
    (hsz : vs.length + ws.length ≤ sizeLine) : wpAny (model prog w) A (binaryOp .Add (.ref t) (.ref b)) Q E s := by
  obtain ⟨⟨cls, dd, data, sl⟩, ho, hc, n, hd⟩ := id ht
  obtain ⟨⟨cls2, dd2, data2, sl2⟩, ho2, hc2, n2, hd2⟩ := id hb
  simp only at hc hd hc2 hd2
  subst hc hd hc2 hd2
  have e : vs.toArray ++ ws.toArray = (vs ++ ws).toArray := by simp
  by_cases hw : ws = []
  · exact concat_meets ⟨_, ho, rfl⟩ ⟨_, ho2, rfl⟩ noFill_tuple_add seq_tuple_add PySem.F.slot_tuple_add PySem.F.entry_tuple_add (PySem.F.args_tuple_add_2 _ _)
      (tuple_addW1 t b vs.toArray ws.toArray n n2 dd dd2 sl sl2 (by simpa using hv) (by simp [hw])) ⟨ho, ho2, h1 hw⟩
  · refine concat_meets ⟨_, ho, rfl⟩ ⟨_, ho2, rfl⟩ noFill_tuple_add seq_tuple_add PySem.F.slot_tuple_add PySem.F.entry_tuple_add (PySem.F.args_tuple_add_2 _ _)
      (tuple_addW2 t b vs.toArray ws.toArray n n2 dd dd2 sl sl2 (by simpa using hv) (by simpa using hw) (by rw [List.size_toArray, List.size_toArray]; exact hsz)) ⟨ho, ho2, ?_⟩
    rw [e]
    exact h2 hw

/-! ### t[a:b], not the whole -/
/-- a slice's bound as a place among n (d where it is left out) -/
def sIx (n d : Nat) : Option Int → Nat
  | none => d
  | some v => if v < 0 then (v + (n : Int)).toNat else min v.toNat n
theorem sIx_none (n d : Nat) : sIx n d none = d := rfl
theorem sIx_nat (n d k : Nat) : sIx n d (some (k : Int)) = min k n := by
  show (if (k : Int) < 0 then ((k : Int) + (n : Int)).toNat else min (k : Int).toNat n) = min k n
  rw [if_neg (by omega), Int.toNat_natCast]
theorem sIx_le (n d : Nat) (hd : d ≤ n) (o : Option Int) : sIx n d o ≤ n := by
  cases o with
  | none => exact hd
  | some v =>
    show (if v < 0 then (v + (n : Int)).toNat else min v.toNat n) ≤ n
    by_cases hv : v < 0
    · rw [if_pos hv]; omega
    · rw [if_neg hv]; exact Nat.min_le_right _ _
theorem clip_eq (v : Int) (n d : Nat) : (if v < 0 then max (v + (n : Int)) 0 else min v (n : Int)) = ((sIx n d (some v) : Nat) : Int) := by
  show (if v < 0 then max (v + (n : Int)) 0 else min v (n : Int)) = (((if v < 0 then (v + (n : Int)).toNat else min v.toNat n) : Nat) : Int)
  by_cases hv : v < 0
  · simp only [if_pos hv]; omega
  · simp only [if_neg hv]; omega
theorem adjust_gen (lo hi : Option Int) (n : Nat) : Builtin.Slice.sliceAdjust lo hi 1 (n : Int) = (((sIx n 0 lo : Nat) : Int), ((sIx n n hi : Nat) : Int)) := by
  have h1 : ¬ ((1 : Int) < 0) := by omega
  unfold Builtin.Slice.sliceAdjust
  simp only [h1, if_false]
  refine Prod.ext ?_ ?_
  · cases lo with
    | none => rfl
    | some v => exact clip_eq v n 0
  · cases hi with
    | none => rfl
    | some v => exact clip_eq v n n
theorem places_gen (i j : Nat) : Builtin.Slice.slicePlaces (i : Int) (j : Int) 1 = j - i := by
  unfold Builtin.Slice.slicePlaces
  have h1 : (1 : Int) > 0 := by omega
  simp only [h1, if_true, Int.ediv_one]
  split <;> omega
theorem slicePart_ {v : Value} {o : Option Int} {Q : Option Int → Shared → Prop} (p : IsPart v o) (h : Q o s) : wpAny (model prog w) A (Builtin.Slice.slicePartIndex v) Q E s := by
  cases p with
  | none => exact slicePart_none h
  | int i t => exact slicePart_int h
theorem sliceApplied_gen {sl : Addr} {vl vu : Value} {lo hi : Option Int} {n : Nat} {Q : Int × Int × Nat → Shared → Prop} (hs : s.heap.IsSliceOf sl vl vu .none) (pl : IsPart vl lo) (pu : IsPart vu hi)
    (h : Q (((sIx n 0 lo : Nat) : Int), 1, sIx n n hi - sIx n 0 lo) s) : wpAny (model prog w) A (Builtin.Slice.sliceApplied (.ref sl) (pure (n : Int))) Q E s := by
  obtain ⟨os, hos, hcs, hds⟩ := id hs
  unfold Builtin.Slice.sliceApplied Builtin.Slice.sliceFields
  refine wpAny_bind (wpAny_bind (wpAny_field hos hds (x := vl) rfl (wpAny_bind (wpAny_field hos hds (x := vu) rfl (wpAny_bind (wpAny_field hos hds (x := .none) rfl (wpAny_pure ?_)))))))
  refine wpAny_bind (slicePart_none ?_)
  show wpAny _ _ (if ((1 : Int) == 0) = true then _ else _) _ _ s
  rw [if_neg (by decide)]
  refine wpAny_bind (slicePart_ pl (wpAny_bind (slicePart_ pu (wpAny_bind (wpAny_pure ?_)))))
  show wpAny _ _ (match Builtin.Slice.sliceAdjust lo hi 1 (n : Int) with | (lo, hi) => pure (lo, (1 : Int), Builtin.Slice.slicePlaces lo hi 1)) _ _ s
  rw [adjust_gen lo hi n]
  show wpAny _ _ (pure (((sIx n 0 lo : Nat) : Int), (1 : Int), Builtin.Slice.slicePlaces ((sIx n 0 lo : Nat) : Int) ((sIx n n hi : Nat) : Int) 1)) _ _ s
  rw [places_gen]
  exact wpAny_pure h
theorem pick_gen (xs : Array Value) (i k : Nat) : ((List.range k).filterMap fun (m : Nat) => xs[((i : Int) + (m : Int) * 1).toNat]?).toArray = ((xs.toList.drop i).take k).toArray := by
  have e : (fun (m : Nat) => xs[((i : Int) + (m : Int) * 1).toNat]?) = fun m => xs[i + m]? := by
    funext m
    have : ((i : Int) + (m : Int) * 1).toNat = i + m := by omega
    rw [this]
  rw [e]
  have := pick_run xs i k
  rw [List.filterMap_map] at this
  have e2 : ((fun x => xs[x]?) ∘ fun x => i + x) = fun m => xs[i + m]? := rfl
  rw [e2] at this
  rw [this]

theorem getItem_tuple_cut {t sl : Addr} {items : Array Value} {vl vu : Value} {lo hi : Option Int} {Q : Value → Shared → Prop} (ht : IsTup s.heap t items) (hs : s.heap.IsSliceOf sl vl vu .none) (pl : IsPart vl lo) (pu : IsPart vu hi)
    (hw : ¬ (sIx items.size 0 lo = 0 ∧ sIx items.size items.size hi = items.size))
    (h : Q (.ref s.heap.objs.size) { s with heap := s.heap.push { cls := .type "tuple", data := .seq ((items.toList.drop (sIx items.size 0 lo)).take (sIx items.size items.size hi - sIx items.size 0 lo)).toArray } })
    (hsz : items.size ≤ sizeLine) : wpAny (model prog w) A (getItem (.ref t) (.ref sl)) Q E s := by
  have htake : sizeOk (.seq ((items.toList.drop (sIx items.size 0 lo)).take (sIx items.size items.size hi - sIx items.size 0 lo)).toArray) := by
    show ((items.toList.drop (sIx items.size 0 lo)).take (sIx items.size items.size hi - sIx items.size 0 lo)).toArray.size ≤ sizeLine
    rw [List.size_toArray, List.length_take, List.length_drop, Array.length_toList]
    omega
  have hj : sIx items.size items.size hi ≤ items.size := sIx_le _ _ (Nat.le_refl _) hi
  obtain ⟨os, hos, hcs, hds⟩ := id hs
  have hTs : s.TypeIs (.ref sl) "slice" := ⟨os, hos, hcs⟩
  unfold getItem
  try with_reducible refine wpAny_holding ?_
  first | refine wpAny_bind (wpAny_pure ?_) | skip
  refine wpAny_bind (wpAny_sequenceKey ht.typeIs (by decide) ?_)
  refine wpAny_bind (wpAny_callSpecial?_slot (name := Str.ofString "__getitem__") ht.typeIs PyProof.Rows.slot_tuple_getitem
    (wpAny_call_entry PyProof.Rows.slot_tuple_getitem ht.typeIs entry_tuple_getitem ?_ (args_tuple_getitem _ _)))
  show wpAny _ _ (Builtin.Tuple.tupleItemsOf (.ref t) >>= _) _ _ s
  refine wpAny_bind (tupleItemsOf_ ht ?_)
  refine wpAny_bind (wpAny_typeOf hTs ?_)
  rw [if_pos (by decide)]
  refine wpAny_bind (sliceApplied_gen hs pl pu ?_)
  have hno : ¬ ((((sIx items.size 0 lo : Nat) : Int) == 0 && (1 : Int) == 1 && (sIx items.size items.size hi - sIx items.size 0 lo) == items.size) = true) := by
    intro q
    rw [Bool.and_eq_true, Bool.and_eq_true] at q
    have q1 : ((sIx items.size 0 lo : Nat) : Int) = 0 := eq_of_beq q.1.1
    have q2 : sIx items.size items.size hi - sIx items.size 0 lo = items.size := eq_of_beq q.2
    exact hw ⟨by omega, by omega⟩
  show wpAny _ _ (if (((sIx items.size 0 lo : Nat) : Int) == 0 && (1 : Int) == 1 && (sIx items.size items.size hi - sIx items.size 0 lo) == items.size) = true then _ else _) _ _ s
  rw [if_neg hno, pick_gen]
  first
    | exact wpAny_bind (m := Builtin.Tuple.tupleExact _) (wpAny_newObj_type (wpAny_pure ⟨_, rfl, wpAny_pure h⟩) htake)
    | exact wpAny_bind (m := Builtin.Tuple.tupleExact _) (wpAny_newObj_type (wpAny_bind (wpAny_pure (wpAny_pure ⟨_, rfl, wpAny_pure h⟩))) htake)
    | exact wpAny_bind (wpAny_bind (m := Builtin.Tuple.tupleExact _) (wpAny_newObj_type (wpAny_pure (wpAny_pure ⟨_, rfl, wpAny_pure h⟩)) htake))
    | exact wpAny_bind (wpAny_bind (m := Builtin.Tuple.tupleExact _) (wpAny_newObj_type (wpAny_pure ⟨_, rfl, wpAny_pure h⟩) htake))
end
end HT

namespace L2
open PySem PySem.Spec PyProof.Rows

/-! ### the parts of a slice -/
abbrev TO := St → Hp → (Option Int → Hp → Prop) → Prop
/-- a slice's part (left out, or an int) -/
def PO (X : Cx) (e : Option Expr) (t : TO) : Prop :=
  ∀ (pins : List (Addr × Obj)) (s : Shared) (σ : St) (H : Hp) (Q : Option Int → Hp → Prop), Inv X pins σ H s → t σ H Q →
    wpAny (model X.prog X.w) X.A (evalPart e X.env) (fun u s' => ∃ o H', Inv X pins σ H' s' ∧ IsPart u o ∧ Q o H') X.xe s
def tNoPart : TO := fun _ H Q => Q none H
def tPart (t : TE) : TO := fun σ H Q => t σ H fun x H1 => ∃ i, x = .int i ∧ Q (some i) H1

section
variable {X : Cx} {e : Expr} {te : TE} {lo hi : Option Expr} {tl th : TO} {pos p2 : Pos}

theorem po_none : PO X none tNoPart := by
  intro pins s σ H Q I h
  rw [evalPart_none]
  exact wpAny_pure ⟨none, H, I, .none, h⟩
/-- what a slice of a value is, by values: the slice object stands at sl -/
def SlR (X : Cx) (r : V → Option Int → Option Int → Hp → VK → Prop) : Prop :=
  ∀ (pins : List (Addr × Obj)) (s : Shared) (σ : St) (H : Hp) (x : V) (v vl vu : Value) (lo hi : Option Int) (sl : Addr) (Q : VK), Inv X pins σ H s → RelV x v → s.heap.IsSliceOf sl vl vu .none → IsPart vl lo → IsPart vu hi → r x lo hi H Q →
    ∃ T id, typeLookup (.type T) "__getitem__" = pure (some (.builtin id)) ∧ s.TypeIs v T ∧ wpAny (model X.prog X.w) X.A (getItem v (.ref sl)) (EP X pins σ Q) X.xe s
def tSl (r : V → Option Int → Option Int → Hp → VK → Prop) (te : TE) (tl th : TO) : TE := fun σ H Q => te σ H fun x H1 => tl σ H1 fun l H2 => th σ H2 fun u H3 => r x l u H3 Q
/-- a[lo:hi], any a -/
theorem pe_slice {r : V → Option Int → Option Int → Hp → VK → Prop} (hr : SlR X r) (he : PE X e te) (hl : PO X lo tl) (hu : PO X hi th) : PE X (.Subscript e (.Slice lo hi none p2) pos) (tSl r te tl th) := by
  intro pins s σ H Q I h
  refine Subscript_ (thn (he pins s σ H _ I h) fun v s1 ⟨x, H1, I1, r1, q1⟩ => ?_)
  refine wpAny_Slice (thn (hl pins s1 σ H1 _ I1 q1) fun vl s2 ⟨l, H2, I2, pl, q2⟩ => thn (hu pins s2 σ H2 _ I2 q2) fun vu s3 ⟨u, H3, I3, pu, q3⟩ => ?_)
  rw [evalPart_none]
  refine wpAny_pure ?_
  have I4 : Inv X pins σ H3 { s3 with heap := s3.heap.push { cls := .type "slice", data := .fields #[vl, vu, .none] } } := I3.kept (t' := s3.toks) fun b ob q => Heap.get?_push_of_some _ q
  obtain ⟨T, id, hT, ht, hg⟩ := hr pins { s3 with heap := s3.heap.push { cls := .type "slice", data := .fields #[vl, vu, .none] } } σ H3 x v vl vu l u s3.heap.objs.size Q I4 r1 (Heap.IsSliceOf.new ..) pl pu q3
  show wpAny (model X.prog X.w) X.A (subscriptTail e (.Slice lo hi none p2) v (.ref s3.heap.objs.size)) (EP X pins σ Q) X.xe { s3 with heap := s3.heap.push { cls := .type "slice", data := .fields #[vl, vu, .none] } }
  exact tail_any (ops := [.ref s3.heap.objs.size, v]) ht hT hg (by with_unfolding_all rfl)

/-- the items of xs[lo:hi] -/
def cutV (xs : List V) (lo hi : Option Int) : List V := (xs.drop (HT.sIx xs.length 0 lo)).take (HT.sIx xs.length xs.length hi - HT.sIx xs.length 0 lo)
theorem cutV_length (xs : List V) (lo hi : Option Int) : (cutV xs lo hi).length ≤ xs.length := by
  unfold cutV
  rw [List.length_take, List.length_drop]
  omega
/-- t[lo:hi], not the whole of it (the whole would be t itself) -/
def rSlT (K : PySem.W.Frag) : V → Option Int → Option Int → Hp → VK → Prop := fun x lo hi H Q => ∃ a xs, x = .ref a ∧ SqT K H a xs ∧
  ¬ (HT.sIx xs.length 0 lo = 0 ∧ HT.sIx xs.length xs.length hi = xs.length) ∧ ∀ p, H p = none → Q (.ref p) (upd H p (.tup (cutV xs lo hi)))
theorem sl_tup : SlR X (rSlT X.K) := by
  intro pins s σ H x v vl vu lo hi sl Q I rx hs pl pu h
  obtain ⟨a, xs, rfl, hx, hw, q⟩ := h
  cases rx
  obtain ⟨its, r, ht, hz⟩ := I.tuple hx
  have hlen : its.toArray.size = xs.length := by rw [List.size_toArray]; exact r.length.symm
  refine ⟨"tuple", _, PyProof.Rows.slot_tuple_getitem.lookup, ht.typeIs, ?_⟩
  refine HT.getItem_tuple_cut ht hs pl pu (by rw [hlen]; exact hw) ?_ (by rw [hlen]; exact hz)
  rw [hlen]
  refine ⟨.ref s.heap.objs.size, _, I.laid (t' := s.toks) (o := .tup (cutV xs lo hi)) (fun b ob q => Heap.get?_push_of_some _ q) (Nat.le_refl _) ?_, rfl, q _ (I.hok.fresh (Nat.le_refl _))⟩
  exact ⟨Nat.le_trans (cutV_length xs lo hi) hz, _, (r.drop (HT.sIx xs.length 0 lo)).take (HT.sIx xs.length xs.length hi - HT.sIx xs.length 0 lo), IsTup.new _ _⟩

/-! ### t < u, t + u -/
def rLtT (K : PySem.W.Frag) : R2 := fun x y H Q => ∃ a b ns ms, x = .ref a ∧ y = .ref b ∧ SqT K H a (ns.map V.int) ∧ SqT K H b (ms.map V.int) ∧ Q (.bl (HT.lexLt ns ms)) H
/-- t + u, t not empty: u empty gives t itself -/
def rCatT (K : PySem.W.Frag) : R2 := fun x y H Q => ∃ a b xs ys, x = .ref a ∧ y = .ref b ∧ SqT K H a xs ∧ SqT K H b ys ∧ xs ≠ [] ∧ xs.length + ys.length ≤ sizeLine ∧
  (ys = [] → Q (.ref a) H) ∧ (ys ≠ [] → ∀ p, H p = none → Q (.ref p) (upd H p (.tup (xs ++ ys))))
theorem Vals.nil_iff {xs : List V} {us : List Value} (r : Vals xs us) : us = [] ↔ xs = [] := by
  cases r with
  | nil => simp
  | cons _ _ => simp
theorem op_catT : OpR X (binaryOp .Add) (rCatT X.K) := by
  intro pins s σ H x y v u Q I rx ry h
  obtain ⟨a, b, xs, ys, rfl, rfl, ha, hb, hx, hz, q1, q2⟩ := h
  cases rx
  cases ry
  obtain ⟨its, r1, p1, _⟩ := I.tuple ha
  obtain ⟨its2, r2, p2, _⟩ := I.tuple hb
  refine HT.cat_tup p1 p2 (fun z => hx (r1.nil_iff.mp z)) (fun z => ⟨.ref a, H, I, rfl, q1 (r2.nil_iff.mp z)⟩) (fun z => ?_) (by rw [← r1.length, ← r2.length]; exact hz)
  refine ⟨.ref s.heap.objs.size, _, I.laid (t' := s.toks) (o := .tup (xs ++ ys)) (fun b ob q => Heap.get?_push_of_some _ q) (Nat.le_refl _) ?_, rfl, q2 (fun w => z (r2.nil_iff.mpr w)) _ (I.hok.fresh (Nat.le_refl _))⟩
  exact ⟨by rw [List.length_append]; exact hz, _, r1.append r2, IsTup.new _ _⟩
end
end L2

namespace L2
open PySem PySem.Spec PyProof.Rows

/-! ### places -/
/-- the place that an index of any sign means -/
def ixN (n : Nat) (i : Int) : Option Nat := if 0 ≤ i then (if i < n then some i.toNat else none) else if -(n : Int) ≤ i then some (i + n).toNat else none
def atI {α : Type} (xs : List α) (i : Int) : Option α := (ixN xs.length i).bind fun j => xs[j]?
theorem ixN_seq {n : Nat} {i : Int} {j : Nat} (h : ixN n i = some j) : seqIndex? i n = some j ∧ j < n ∧ -(n : Int) ≤ i ∧ i < n := by
  unfold ixN at h
  by_cases h0 : 0 ≤ i
  · rw [if_pos h0] at h
    by_cases h1 : i < n
    · rw [if_pos h1] at h
      have e : i.toNat = j := Option.some.inj h
      exact ⟨by rw [seqIndex_of h0 h1, e], by omega, by omega, h1⟩
    · rw [if_neg h1] at h; cases h
  · rw [if_neg h0] at h
    by_cases h1 : -(n : Int) ≤ i
    · rw [if_pos h1] at h
      have e : (i + n).toNat = j := Option.some.inj h
      exact ⟨by rw [seqIndex_neg (by omega) h1, e], by omega, h1, by omega⟩
    · rw [if_neg h1] at h; cases h
theorem atI_get {α : Type} {xs : List α} {i : Int} {v : α} (h : atI xs i = some v) : ∃ j, seqIndex? i xs.length = some j ∧ xs[j]? = some v ∧ j < xs.length ∧ -(xs.length : Int) ≤ i ∧ i < xs.length := by
  unfold atI at h
  cases e : ixN xs.length i with
  | none => rw [e] at h; cases h
  | some j =>
    rw [e] at h
    obtain ⟨h1, h2, h3, h4⟩ := ixN_seq e
    exact ⟨j, h1, h, h2, h3, h4⟩
theorem atI_nat {α : Type} {xs : List α} {j : Nat} {v : α} (h : xs[j]? = some v) : atI xs (j : Int) = some v := by
  have hj : j < xs.length := (List.getElem?_eq_some_iff.mp h).1
  have e : ixN xs.length (j : Int) = some j := by
    unfold ixN
    rw [if_pos (by omega), if_pos (by omega)]; simp
  unfold atI; rw [e]; exact h
/-! ### what may be subscripted -/
/-- what stands as an index of a plain subscript -/
def PlainIx (b : Expr) : Prop := ∀ o i, subscripted b false o i = operate [o, i] (getItem o i)
/-- a subscript by values -/
def IxR (X : Cx) (r : R2) : Prop :=
  ∀ (value slice : Expr) (pins : List (Addr × Obj)) (s : Shared) (σ : St) (H : Hp) (x y : V) (v u : Value) (Q : VK), Inv X pins σ H s → RelV x v → RelV y u → r x y H Q →
    subscripted slice false v u = operate [v, u] (getItem v u) → wpAny (model X.prog X.w) X.A (subscriptTail value slice v u) (EP X pins σ Q) X.xe s
/-- a call of a builtin's method by values: the receiver, the arguments -/
def MtR (X : Cx) (id : String) (r : V → List V → Hp → VK → Prop) : Prop :=
  ∀ (pins : List (Addr × Obj)) (s : Shared) (σ : St) (H : Hp) (x : V) (xs : List V) (v : Value) (us : List Value) (Q : VK), Inv X pins σ H s → RelV x v → Vals xs us → r x xs H Q →
    wpAny (model X.prog X.w) X.A (call (.builtin id) (v :: us)) (EP X pins σ Q) X.xe s
section
variable {X : Cx} {a b : Expr} {ta tb : TE} {pos : Pos}
/-- a[b] -/
theorem pe_ix {r : R2} (hr : IxR X r) (ha : PE X a ta) (hb : PE X b tb) (hs : PlainIx b) : PE X (.Subscript a b pos) (tOp r ta tb) := by
  intro pins s σ H Q I h
  exact Subscript_ (binT ha hb I h fun v u s2 x y H2 I2 rx ry q => hr a b pins s2 σ H2 x y v u Q I2 rx ry q (hs _ _))

def rIxL (K : PySem.W.Frag) : R2 := fun x y H Q => ∃ p xs i v, x = .ref p ∧ y = .int i ∧ SqL K H p xs ∧ atI xs i = some v ∧ Q v H
def rIxT (K : PySem.W.Frag) : R2 := fun x y H Q => ∃ p xs i v, x = .ref p ∧ y = .int i ∧ SqT K H p xs ∧ atI xs i = some v ∧ Q v H
def rIxS : R2 := fun x y H Q => ∃ z i c, x = .str z ∧ y = .int i ∧ z.length ≤ sizeLine ∧ atI z.cps.toList i = some c ∧ Q (.str ⟨#[c]⟩) H
theorem ix_list : IxR X (rIxL X.K) := by
  intro value slice pins s σ H x y v u Q I rx ry h hs
  obtain ⟨p, xs, i, z, rfl, rfl, hq, he, q⟩ := h
  cases rx
  obtain ⟨t, rfl⟩ := ry
  obtain ⟨its, r, pl, hz⟩ := I.list hq
  obtain ⟨j, h1, h2, h3, h4, h5⟩ := atI_get he
  obtain ⟨w, ew, rw'⟩ := r.get h2
  have hl := r.length
  have hn := line63
  have fin : EP X pins σ Q w s := ⟨z, H, I, rw', q⟩
  by_cases h0 : 0 ≤ i
  · have hj : i.toNat = j := by
      rw [seqIndex_of h0 h5] at h1
      exact Option.some.inj h1
    exact item_listR pl.isList h0 (by omega) (by rw [hj]; simpa using ew) fin hs
  · have hj : (i + (its.toArray.size : Int)).toNat = j := by
      rw [seqIndex_neg (by omega) h4] at h1
      rw [List.size_toArray, ← hl]
      exact Option.some.inj h1
    exact subscriptTail_builtinR (x := w) pl.isList.typeIs slot_list_getitem.lookup
      (wpAny_getItem_list_neg (Q := fun r s' => r = w ∧ EP X pins σ Q r s') pl.isList (by omega) (by rw [List.size_toArray] <;> omega) (by omega) (by rw [hj]; simpa using ew) ⟨rfl, fin⟩) hs
theorem ix_tup : IxR X (rIxT X.K) := by
  intro value slice pins s σ H x y v u Q I rx ry h hs
  obtain ⟨p, xs, i, z, rfl, rfl, hq, he, q⟩ := h
  cases rx
  obtain ⟨t, rfl⟩ := ry
  obtain ⟨its, r, pl, hz⟩ := I.tuple hq
  obtain ⟨j, h1, h2, h3, h4, h5⟩ := atI_get he
  obtain ⟨w, ew, rw'⟩ := r.get h2
  have hl := r.length
  have hn := line63
  have fin : EP X pins σ Q w s := ⟨z, H, I, rw', q⟩
  exact subscriptTail_builtinR (x := w) pl.typeIs slot_tuple_getitem.lookup
    (getItem_tuple (j := j) (Q := fun r s' => r = w ∧ EP X pins σ Q r s') pl (by omega) (by omega) (by rw [List.size_toArray, ← hl]; exact h1) (by simpa using ew) ⟨rfl, fin⟩) hs
theorem ix_str : IxR X rIxS := by
  intro value slice pins s σ H x y v u Q I rx ry h hs
  obtain ⟨z, i, c, rfl, rfl, hz, he, q⟩ := h
  obtain ⟨t, rfl⟩ := rx
  obtain ⟨t', rfl⟩ := ry
  obtain ⟨j, h1, h2, h3, h4, h5⟩ := atI_get he
  have hl : z.cps.toList.length = z.length := by simp [Str.length]
  rw [hl] at h1 h4 h5
  have hn := line63
  exact tail_any (typeIs_str s z t) slot_str_getitem.lookup (getItem_str (c := c) (by
    have e1 : decide (i < -(2 ^ 63 : Int)) = false := decide_eq_false (by omega)
    have e2 : decide (i ≥ 2 ^ 63) = false := decide_eq_false (by omega)
    rw [e1, e2, Bool.or_false]) (by rw [h1]; simpa using h2) ⟨.str ⟨#[c]⟩, H, I.tok _, ⟨_, rfl⟩, q⟩) hs
/-- list, tuple or str -/
def rIx (K : PySem.W.Frag) : R2 := fun x y H Q => rIxL K x y H Q ∨ rIxT K x y H Q ∨ rIxS x y H Q
/-! ### xs[i] = v, any sign -/
def rSetL : V → V → V → Hp → (Hp → Prop) → Prop := fun o i v H Q => ∃ p xs k j, o = .ref p ∧ i = .int k ∧ H p = some (.lst xs) ∧ ixN xs.length k = some j ∧ Q (upd H p (.lst (xs.set j v)))
/-! ### slices -/
theorem slice_bounds (lo hi : Option Int) (n : Nat) : (sliceBounds lo hi none n).1 = ((HT.sIx n 0 lo : Nat) : Int) ∧ (sliceBounds lo hi none n).2.1 = ((HT.sIx n n hi : Nat) : Int) ∧ (sliceBounds lo hi none n).2.2 = 1 := by
  refine ⟨?_, ?_, rfl⟩
  · cases lo with
    | none => simp [sliceBounds, HT.sIx]
    | some i =>
      simp only [sliceBounds, HT.sIx, Option.getD_none, show (1 : Int) > 0 by decide, if_true]
      by_cases h : i < 0
      · simp only [h, if_true] <;> omega
      · simp only [h, if_false] <;> omega
  · cases hi with
    | none => simp [sliceBounds, HT.sIx]
    | some i =>
      simp only [sliceBounds, HT.sIx, Option.getD_none, show (1 : Int) > 0 by decide, if_true]
      by_cases h : i < 0
      · simp only [h, if_true] <;> omega
      · simp only [h, if_false] <;> omega
theorem slicePick_cut (its : List Value) (lo hi : Option Int) : slicePick its.toArray lo hi none = ((its.drop (HT.sIx its.length 0 lo)).take (HT.sIx its.length its.length hi - HT.sIx its.length 0 lo)).toArray := by
  obtain ⟨h1, h2, h3⟩ := slice_bounds lo hi its.toArray.size
  unfold slicePick
  rw [h1, h2, h3]
  simp only [sliceRange_one, pick_run, List.size_toArray] <;> rfl
/-- xs[lo:hi] of a list: a new list -/
def rSlL (K : PySem.W.Frag) : V → Option Int → Option Int → Hp → VK → Prop := fun x lo hi H Q => ∃ a xs, x = .ref a ∧ SqL K H a xs ∧ ∀ p, H p = none → Q (.ref p) (upd H p (.lst (cutV xs lo hi)))
theorem sl_list : SlR X (rSlL X.K) := by
  intro pins s σ H x v vl vu lo hi sl Q I rx hs pl pu h
  obtain ⟨a, xs, rfl, hx, q⟩ := h
  cases rx
  obtain ⟨its, r, ht, hz⟩ := I.list hx
  have hlen := r.length
  refine ⟨"list", _, slot_list_getitem.lookup, ht.isList.typeIs, ?_⟩
  refine wpAny_getItem_list_slice ht.isList hs pl pu .none (by simp) ?_ (by rw [List.size_toArray] <;> omega)
  rw [slicePick_cut, ← hlen]
  refine ⟨.ref s.heap.objs.size, _, I.laid (t' := s.toks) (o := .lst (cutV xs lo hi)) (fun b ob q => Heap.get?_push_of_some _ q) (Nat.le_refl _) ?_, rfl, q _ (I.hok.fresh (Nat.le_refl _))⟩
  exact ⟨Nat.le_trans (cutV_length xs lo hi) hz, _, 0, (r.drop (HT.sIx xs.length 0 lo)).take (HT.sIx xs.length xs.length hi - HT.sIx xs.length 0 lo), Heap.get?_push_size _ rfl⟩

/-! ### in, not in: flat items -/
def flatV : V → Bool
  | .non => true
  | .bl _ => true
  | .int _ => true
  | .str _ => true
  | _ => false
/-- == of flat values -/
def eqV : V → V → Bool
  | .non, .non => true
  | .bl a, .bl b => a == b
  | .bl a, .int b => (if a then 1 else 0) == b
  | .int a, .bl b => a == (if b then 1 else 0)
  | .int a, .int b => a == b
  | .str a, .str b => a == b
  | _, _ => false
theorem eqAt_V {A : Around} {s : Shared} {y x : V} {u v : Value} (ry : RelV y u) (rx : RelV x v) (fy : flatV y = true) (fx : flatV x = true) : SeqAt.EqAt A s u v (eqV y x) := by
  cases y with
  | non =>
    cases ry
    cases x with
    | non => cases rx; exact SeqAt.EqAt.same _
    | bl b => cases rx; exact SeqAt.EqAt.none_bool b
    | int b => obtain ⟨t, rfl⟩ := rx; exact SeqAt.EqAt.none_int b t
    | str b => obtain ⟨t, rfl⟩ := rx; exact SeqAt.EqAt.none_str b t
    | _ => exact absurd (show false = true from fx) Bool.false_ne_true
  | bl a =>
    cases ry
    cases x with
    | non => cases rx; exact SeqAt.EqAt.bool_none a
    | bl b => cases rx; exact SeqAt.EqAt.bool_bool a b
    | int b => obtain ⟨t, rfl⟩ := rx; exact SeqAt.EqAt.bool_int a b t
    | str b => obtain ⟨t, rfl⟩ := rx; exact SeqAt.EqAt.bool_str a b t
    | _ => exact absurd (show false = true from fx) Bool.false_ne_true
  | int a =>
    obtain ⟨t', rfl⟩ := ry
    cases x with
    | non => cases rx; exact SeqAt.EqAt.int_none a t'
    | bl b => cases rx; exact SeqAt.EqAt.int_bool a t' b
    | int b => obtain ⟨t, rfl⟩ := rx; exact SeqAt.EqAt.int_int a t' b t
    | str b => obtain ⟨t, rfl⟩ := rx; exact SeqAt.EqAt.int_str a t' b t
    | _ => exact absurd (show false = true from fx) Bool.false_ne_true
  | str a =>
    obtain ⟨t', rfl⟩ := ry
    cases x with
    | non => cases rx; exact SeqAt.EqAt.str_none a t'
    | bl b => cases rx; exact SeqAt.EqAt.str_bool a t' b
    | int b => obtain ⟨t, rfl⟩ := rx; exact SeqAt.EqAt.str_int a t' b t
    | str b => obtain ⟨t, rfl⟩ := rx; exact SeqAt.EqAt.str_str a t' b t
    | _ => exact absurd (show false = true from fx) Bool.false_ne_true
  | _ => exact absurd (show false = true from fy) Bool.false_ne_true
/-- the items' answers, read off the values (a value's own answer does not lean on its token) -/
def eqU (x : V) (u : Value) : Bool := match u with
  | .none => eqV .non x
  | .bool b => eqV (.bl b) x
  | .int i _ => eqV (.int i) x
  | .str z _ => eqV (.str z) x
  | _ => false
theorem eqU_of {x y : V} {u : Value} (r : RelV y u) (f : flatV y = true) : eqU x u = eqV y x := by
  cases y with
  | non => cases r; rfl
  | bl b => cases r; rfl
  | int i => obtain ⟨t, rfl⟩ := r; rfl
  | str z => obtain ⟨t, rfl⟩ := r; rfl
  | _ => exact absurd (show false = true from f) Bool.false_ne_true
theorem any_eqU {x : V} : ∀ {xs : List V} {us : List Value}, Vals xs us → xs.all flatV = true → us.any (eqU x) = xs.any fun y => eqV y x
  | _, _, .nil, _ => rfl
  | y :: xs, u :: us, .cons r t, f => by
    rw [List.all_cons, Bool.and_eq_true] at f
    rw [List.any_cons, List.any_cons, eqU_of r f.1, any_eqU t f.2]
theorem mem_eqAt {A : Around} {s : Shared} {x : V} {v : Value} (rx : RelV x v) (fx : flatV x = true) : ∀ {xs : List V} {us : List Value}, Vals xs us → xs.all flatV = true → ∀ u ∈ us, SeqAt.EqAt A s u v (eqU x u)
  | _, _, .nil, _ => fun u hu => by cases hu
  | y :: xs, u :: us, .cons r t, f => fun u' hu => by
    rw [List.all_cons, Bool.and_eq_true] at f
    rcases List.mem_cons.mp hu with rfl | hu
    · rw [eqU_of r f.1]; exact eqAt_V r rx f.1 fx
    · exact mem_eqAt rx fx t f.2 u' hu
def inV (x : V) (xs : List V) : Bool := xs.any fun y => eqV y x
/-- x in a list or tuple of flat items -/
def rIn (K : PySem.W.Frag) (neg : Bool) : R2 := fun x y H Q => ∃ p xs, y = .ref p ∧ (SqL K H p xs ∨ SqT K H p xs) ∧ flatV x = true ∧ xs.all flatV = true ∧ Q (.bl (if neg then !inV x xs else inV x xs)) H
theorem op_in_seq : OpR X (compareOp .In) (rIn X.K false) := by
  intro pins s σ H x y v u Q I rx ry h
  obtain ⟨p, xs, rfl, hq, fx, fs, q⟩ := h
  cases ry
  rcases hq with hq | hq
  · obtain ⟨its, r, pl, hz⟩ := I.list hq
    refine SeqAt.in_listAt (eqU x) pl.isList (fun w hw => mem_eqAt rx fx r fs w (by simpa using hw)) ⟨.bl _, H, I, rfl, ?_⟩
    rw [show its.toArray.any (eqU x) = its.any (eqU x) by simp, any_eqU r fs]
    exact q
  · obtain ⟨its, r, pl, hz⟩ := I.tuple hq
    refine SeqAt.in_tupleAt (eqU x) pl (fun w hw => mem_eqAt rx fx r fs w (by simpa using hw)) ⟨.bl _, H, I, rfl, ?_⟩
    rw [show its.toArray.any (eqU x) = its.any (eqU x) by simp, any_eqU r fs]
    exact q
theorem op_notIn_seq : OpR X (compareOp .NotIn) (rIn X.K true) := by
  intro pins s σ H x y v u Q I rx ry h
  obtain ⟨p, xs, rfl, hq, fx, fs, q⟩ := h
  cases ry
  rcases hq with hq | hq
  · obtain ⟨its, r, pl, hz⟩ := I.list hq
    refine SeqAt.notIn_listAt (eqU x) pl.isList (fun w hw => mem_eqAt rx fx r fs w (by simpa using hw)) ⟨.bl _, H, I, rfl, ?_⟩
    rw [show its.toArray.any (eqU x) = its.any (eqU x) by simp, any_eqU r fs]
    exact q
  · obtain ⟨its, r, pl, hz⟩ := I.tuple hq
    refine SeqAt.notIn_tupleAt (eqU x) pl (fun w hw => mem_eqAt rx fx r fs w (by simpa using hw)) ⟨.bl _, H, I, rfl, ?_⟩
    rw [show its.toArray.any (eqU x) = its.any (eqU x) by simp, any_eqU r fs]
    exact q
/-! ### len, list(x), tuple(x) of any list or tuple that is read -/
theorem call_len_seq : CallR X (.builtin "len") (fun xs H Q => ∃ p ys, xs = [.ref p] ∧ (SqL X.K H p ys ∨ SqT X.K H p ys) ∧ Q (.int ys.length) H) := by
  intro pins s σ H xs us Q I r h
  obtain ⟨p, ys, rfl, hq, q⟩ := h
  obtain ⟨u, rfl, rx⟩ := vals1 r
  cases rx
  have hn := line63
  rcases hq with hq | hq
  · obtain ⟨its, r', pl, hz⟩ := I.list hq
    have hlen := r'.length
    exact Calls.call_len_list pl.isList (by simp only [List.size_toArray] <;> omega) ⟨.int ys.length, H, I.tok _, ⟨s.toks + 1, by rw [List.size_toArray, hlen]⟩, q⟩
  · obtain ⟨its, r', pl, hz⟩ := I.tuple hq
    have hlen := r'.length
    exact len_tuple pl (by simp only [List.size_toArray] <;> omega) ⟨.int ys.length, H, I.tok _, ⟨s.toks + 1, by rw [List.size_toArray, hlen]⟩, q⟩
theorem call_len_str : CallR X (.builtin "len") (fun xs H Q => ∃ z, xs = [.str z] ∧ z.length ≤ sizeLine ∧ Q (.int z.length) H) := by
  intro pins s σ H xs us Q I r h
  obtain ⟨z, rfl, hz, q⟩ := h
  obtain ⟨u, rfl, t, rfl⟩ := vals1 r
  have hn := line63
  exact len_str (by omega) ⟨.int z.length, H, I.tok _, ⟨_, rfl⟩, q⟩
theorem CallR.or {f : Value} {r r' : List V → Hp → VK → Prop} (h : CallR X f r) (h' : CallR X f r') : CallR X f (fun xs H Q => r xs H Q ∨ r' xs H Q) := by
  intro pins s σ H xs us Q I rs q
  rcases q with q | q
  · exact h pins s σ H xs us Q I rs q
  · exact h' pins s σ H xs us Q I rs q
theorem call_list_of : CallR X (.type "list") (fun xs H Q => ∃ p ys, xs = [.ref p] ∧ (SqL X.K H p ys ∨ SqT X.K H p ys) ∧ ∀ l, H l = none → Q (.ref l) (upd H l (.lst ys))) := by
  intro pins s σ H xs us Q I r h
  obtain ⟨p, ys, rfl, hq, q⟩ := h
  obtain ⟨u, rfl, rx⟩ := vals1 r
  cases rx
  have fin : ∀ (its : List Value), Vals ys its → ys.length ≤ sizeLine → ∀ (h' : Heap) (c' : Nat), (∀ b o', s.heap.get? b = some o' → h'.get? b = some o') →
      h'.get? s.heap.objs.size = some { cls := .type "list", dict := none, data := .seq its.toArray c', slots := #[] } → EP X pins σ Q (.ref s.heap.objs.size) { s with heap := h' } := fun its r' hz h' c' kp e =>
    ⟨.ref s.heap.objs.size, _, I.laid (t' := s.toks) kp (Nat.le_refl _) (show ObjOk X.prog X.w _ h' _ (.lst ys) from ⟨hz, its, c', r', e⟩), rfl, q _ (I.hok.fresh (Nat.le_refl _))⟩
  rcases hq with hq | hq
  · obtain ⟨its, r', pl, hz⟩ := I.list hq
    have hlen := r'.length
    obtain ⟨o, ho, hc, n, hd⟩ := pl.isList
    exact call_list_seq p (.inl rfl) ho hc hd (fun h' c' kp e => fin its r' hz h' c' kp e) (by simp only [List.size_toArray] <;> omega)
  · obtain ⟨its, r', pl, hz⟩ := I.tuple hq
    have hlen := r'.length
    obtain ⟨o, ho, hc, n, hd⟩ := pl
    exact call_list_seq p (.inr rfl) ho hc hd (fun h' c' kp e => fin its r' hz h' c' kp e) (by simp only [List.size_toArray] <;> omega)
theorem call_tuple_of : CallR X (.type "tuple") (fun xs H Q => ∃ p ys, xs = [.ref p] ∧ ((SqL X.K H p ys ∧ ∀ l, H l = none → Q (.ref l) (upd H l (.tup ys))) ∨ (SqT X.K H p ys ∧ Q (.ref p) H))) := by
  intro pins s σ H xs us Q I r h
  obtain ⟨p, ys, rfl, h⟩ := h
  obtain ⟨u, rfl, rx⟩ := vals1 r
  cases rx
  rcases h with ⟨hq, q⟩ | ⟨hq, q⟩
  · obtain ⟨its, r', pl, hz⟩ := I.list hq
    have hlen := r'.length
    refine call_tuple_list pl.isList (fun h' kp => ?_) (by simp only [List.size_toArray] <;> omega)
    have I1 : Inv X pins σ H { s with heap := h' } := I.kept (t' := s.toks) kp
    have I2 : Inv X pins σ (upd H h'.objs.size (.tup ys)) { s with heap := h'.push { cls := .type "tuple", data := .seq its.toArray } } :=
      I1.laid (t' := s.toks) (fun b o e => Heap.get?_push_of_some _ e) (Nat.le_refl _) (show ObjOk X.prog X.w _ _ _ (.tup ys) from ⟨hz, its, r', IsTup.new _ _⟩)
    exact ⟨.ref h'.objs.size, _, I2, rfl, q _ (I1.hok.fresh (Nat.le_refl _))⟩
  · obtain ⟨its, r', pl, hz⟩ := I.tuple hq
    exact call_tuple_same pl ⟨.ref p, H, I, rfl, q⟩

/-! ### the call of a builtin's method: o.m(..) -/
/-- the value is of that builtin type -/
def tyV (K : PySem.W.Frag) (T : String) (x : V) (H : Hp) : Prop := match x with
  | .str _ => T = "str"
  | .int _ => T = "int"
  | .ref p => (T = "list" ∧ ∃ xs, SqL K H p xs) ∨ (T = "tuple" ∧ ∃ o, K.lookup p = some o ∧ o.cls = .type "tuple" ∧ o.dict = none) ∨
      (T = "dict" ∧ ((∃ kvs, H p = some (.dK kvs)) ∨ ∃ kvs, H p = some (.dT kvs))) ∨ (T = "set" ∧ ∃ S n, H p = some (.set S n))
  | _ => False
theorem tyV_is {pins : List (Addr × Obj)} {σ : St} {H : Hp} {s : Shared} {T : String} {x : V} {v : Value} (I : Inv X pins σ H s) (r : RelV x v) (ty : tyV X.K T x H) :
    s.TypeIs v T ∧ ∀ a, v = .ref a → ∃ ob, s.heap.get? a = some ob ∧ ob.dict = none := by
  cases x with
  | str z =>
    obtain ⟨t, rfl⟩ := r
    cases (show T = "str" from ty)
    exact ⟨typeIs_str s z t, fun _ e => nomatch e⟩
  | int i =>
    obtain ⟨t, rfl⟩ := r
    cases (show T = "int" from ty)
    exact ⟨typeIs_int s i t, fun _ e => nomatch e⟩
  | ref p =>
    cases r
    rcases ty with ⟨rfl, xs, hq⟩ | ⟨rfl, o, hk, hc, hd⟩ | ⟨rfl, hk⟩ | ⟨rfl, S, n, hk⟩
    · obtain ⟨its, _, pl, _⟩ := I.list hq
      refine ⟨pl.isList.typeIs, fun a e => ?_⟩
      cases e
      obtain ⟨o, n, e, c, hd, _⟩ := pl
      exact ⟨o, e, hd⟩
    · refine ⟨⟨o, I.kIn p o hk, hc⟩, fun a e => ?_⟩
      cases e
      exact ⟨o, I.kIn _ o hk, hd⟩
    · have z : ∃ o, s.heap.get? p = some o ∧ o.ExactDict := by
        rcases hk with ⟨kvs, hk⟩ | ⟨kvs, hk⟩
        · obtain ⟨_, _, _, _, o, _, _, e, ex, _⟩ := I.hok p _ hk
          exact ⟨o, e, ex⟩
        · obtain ⟨_, _, _, _, o, _, _, e, ex, _⟩ := I.hok p _ hk
          exact ⟨o, e, ex⟩
      obtain ⟨o, e, ex⟩ := z
      refine ⟨⟨o, e, ex.1⟩, fun a e2 => ?_⟩
      cases e2
      exact ⟨o, e, ex.2.1⟩
    · obtain ⟨o, _, _, _, e, ex, _⟩ := I.hok p _ hk
      refine ⟨⟨o, e, ex.1⟩, fun a e2 => ?_⟩
      cases e2
      exact ⟨o, e, ex.2.1⟩
  | _ => exact False.elim ty
def tBM0 (K : PySem.W.Frag) (T : String) (r : V → List V → Hp → VK → Prop) (to : TE) : TE := fun σ H Q => to σ H fun x H1 => tyV K T x H1 ∧ r x [] H1 Q
def tBM (K : PySem.W.Frag) (T : String) (r : V → List V → Hp → VK → Prop) (to : TE) (t : TA) : TE := fun σ H Q => to σ H fun x H1 => tyV K T x H1 ∧ t σ H1 fun xs H2 => r x xs H2 Q
variable {o e : Expr} {es : List Expr} {to : TE} {t : TA} {name : Str} {apos cpos : Pos} {T id : String} {r : V → List V → Hp → VK → Prop}
/- xs.append(e), list.index on a module's tuple .. are MtR facts of 06m -/
end
end L2

namespace L2
open PySem PySem.Spec PyProof.Rows

def MtM (X : Cx) (id : String) (r : V → List V → Hp → VK → Prop) : Prop :=
  ∀ (pins : List (Addr × Obj)) (s : Shared) (σ : St) (H : Hp) (x : V) (xs : List V) (v : Value) (us : List Value) (Q : VK), Inv X pins σ H s → RelV x v → Vals xs us → r x xs H Q →
    wpAny (model X.prog X.w) X.A (call (.builtin id) (v :: us)) (EP X pins σ Q) X.xe s

/-! ### lists of values -/
theorem Vals.one : ∀ {x : V} {us : List Value}, Vals [x] us → ∃ u, us = [u] ∧ RelV x u
  | _, _, .cons r .nil => ⟨_, rfl, r⟩
section
variable {X : Cx} {pins : List (Addr × Obj)} {σ : St} {H : Hp} {s : Shared} {l b : Addr} {xs ys zs : List V}

/-! ### the two steps: a tracked list is rewritten, a new list is laid -/
theorem Inv.lset {its its' : List Value} {n : Nat} {f : Array Value → Array Value} {t' : Nat} (I : Inv X pins σ H s) (hH : H l = some (.lst xs))
    (e : s.heap.get? l = some { cls := .type "list", data := .seq its.toArray n }) (hf : f its.toArray = its'.toArray) (hv : Vals ys its') (hz : ys.length ≤ sizeLine) :
    Inv X pins σ (upd H l (.lst ys)) { s with heap := s.heap.update l (Obj.mapSeq f), toks := t' } := by
  have q := PySem.IsL.update e f
  rw [hf] at q
  refine I.write (x := l) (e := l) (by rw [hH]; exact trivial) (.inl rfl) (fun b' u hb hu => (Heap.get?_update_other s.heap (Obj.mapSeq f) (Ne.symm hb)).trans hu) ⟨_, q⟩ ?_
  exact ⟨hz, its', _, hv, q⟩
theorem Inv.lnew {its : List Value} {t' : Nat} (I : Inv X pins σ H s) (hv : Vals ys its) (hz : ys.length ≤ sizeLine) :
    Inv X pins σ (upd H s.heap.objs.size (.lst ys)) { s with heap := s.heap.push { cls := .type "list", data := .seq its.toArray }, toks := t' } :=
  I.laid (fun _ _ q => Heap.get?_push_of_some _ q) (Nat.le_refl _) ⟨hz, its, 0, hv, Heap.get?_push_size _ rfl⟩
theorem Inv.fresh (I : Inv X pins σ H s) : H s.heap.objs.size = none := I.hok.fresh (Nat.le_refl _)
theorem Inv.lstM (I : Inv X pins σ H s) (hH : H l = some (.lst xs)) : xs.length ≤ sizeLine ∧ ∃ (its : List Value) (n : Nat), Vals xs its ∧ xs.length = its.length ∧ s.heap.get? l = some { cls := .type "list", data := .seq its.toArray n } := by
  obtain ⟨z, its, n, r, e⟩ := I.hok l _ hH
  exact ⟨z, its, n, r, r.length, e⟩

theorem notLongL {n : Nat} (h : n ≤ sizeLine) : Builtin.List.listTooLong n = false := by
  unfold Builtin.List.listTooLong
  exact decide_eq_false (by omega)
end

section
variable {X : Cx}

/-! ### methods -/
def rAppend : V → List V → Hp → VK → Prop := fun x vs H Q => ∃ l xs y, x = .ref l ∧ vs = [y] ∧ H l = some (.lst xs) ∧ xs.length < sizeLine ∧ Q .non (upd H l (.lst (xs ++ [y])))
theorem mt_append : MtM X "list.append" rAppend := by
  intro pins s σ H x vs v us Q I rx rv h
  obtain ⟨l, xs, y, rfl, rfl, hH, hz, q⟩ := h
  cases rx
  obtain ⟨u, rfl, ru⟩ := rv.one
  obtain ⟨z, its, n, r, hl, e⟩ := I.lstM hH
  refine call_meets F.slot_list_append ⟨_, e, rfl⟩ F.entry_list_append (F.args_list_append_2 _ _) (PySem.list_append l its.toArray n u (by rw [List.size_toArray]; omega)) ⟨e, ?_⟩
  refine ⟨.non, _, I.lset (its' := its ++ [u]) hH e (by simp) (r.append (.cons ru .nil)) ?_, rfl, q⟩
  rw [List.length_append, List.length_singleton]
  omega

def rExtend : V → List V → Hp → VK → Prop := fun x vs H Q => ∃ l b xs zs, x = .ref l ∧ vs = [.ref b] ∧ H l = some (.lst xs) ∧ H b = some (.lst zs) ∧ xs.length + zs.length ≤ sizeLine ∧ Q .non (upd H l (.lst (xs ++ zs)))
def rPop : V → List V → Hp → VK → Prop := fun x vs H Q => ∃ l xs y, x = .ref l ∧ vs = [] ∧ H l = some (.lst xs) ∧ xs[xs.length - 1]? = some y ∧ Q y (upd H l (.lst xs.dropLast))
def rPopAt : V → List V → Hp → VK → Prop := fun x vs H Q => ∃ l xs i k y, x = .ref l ∧ vs = [.int i] ∧ H l = some (.lst xs) ∧ -(2 ^ 63) ≤ i ∧ i < 2 ^ 63 ∧ seqIndex? i xs.length = some k ∧ xs[k]? = some y ∧ Q y (upd H l (.lst (xs.eraseIdx k)))
def rReverse : V → List V → Hp → VK → Prop := fun x vs H Q => ∃ l xs, x = .ref l ∧ vs = [] ∧ H l = some (.lst xs) ∧ Q .non (upd H l (.lst xs.reverse))
def rClear : V → List V → Hp → VK → Prop := fun x vs H Q => ∃ l xs, x = .ref l ∧ vs = [] ∧ H l = some (.lst xs) ∧ Q .non (upd H l (.lst []))
/-! ### list + list, list += list, list * int -/
def rCat : R2 := fun x y H Q => ∃ l b xs zs, x = .ref l ∧ y = .ref b ∧ H l = some (.lst xs) ∧ H b = some (.lst zs) ∧ xs.length + zs.length ≤ sizeLine ∧ ∀ p, H p = none → Q (.ref p) (upd H p (.lst (xs ++ zs)))
theorem op_cat : OpR X (binaryOp .Add) rCat := by
  intro pins s σ H x y v u Q I rx ry h
  obtain ⟨l, b, xs, zs, rfl, rfl, hH, hB, hz, q⟩ := h
  cases rx
  cases ry
  obtain ⟨z, its, n, r, hl, e⟩ := I.lstM hH
  obtain ⟨z2, its2, n2, r2, hl2, e2⟩ := I.lstM hB
  refine PySem.P.add_list e e2 ?_ (by rw [List.size_toArray, List.size_toArray]; omega)
  have ea : its.toArray ++ its2.toArray = (its ++ its2).toArray := by simp
  rw [ea]
  exact ⟨.ref _, _, I.lnew (t' := s.toks) (r.append r2) (by rw [List.length_append]; omega), rfl, q _ I.fresh⟩
/-- a list times an int (a negative one is nothing) -/
def rRep : R2 := fun x y H Q => ∃ l k xs, x = .ref l ∧ y = .int k ∧ H l = some (.lst xs) ∧ -(2 ^ 63) ≤ k ∧ k < 2 ^ 63 ∧ xs.length * k.toNat ≤ sizeLine ∧
  ∀ p, H p = none → Q (.ref p) (upd H p (.lst (List.replicate k.toNat xs).flatten))
/-! ### del xs[i] -/
end

/-! ### xs[a:b] = ys -/
section
variable {prog : Program} {w : World} {A : Around} {E : Value → Shared → Prop} {s : Shared}
end

section
variable {X : Cx}
end
end L2

namespace Att
open PySem PySem.W PySem.Calls PyProof.Rows

/-! ### the script -/
theorem ints_of_wellAll {P : Params} {h : Heap} : ∀ (ns : List Int) (vs : List Value), WellAll P h vs (ns.map WData.int) → IntsAre vs ns := by
  intro ns
  induction ns with
  | nil =>
    intro vs w
    rw [List.map_nil] at w
    cases w
    exact .nil
  | cons n ns ih =>
    intro vs w
    rw [List.map_cons] at w
    cases w with
    | cons a b =>
      cases a
      exact .cons _ _ (ih _ b)

theorem script_of {l : OpenLaw} {n : Nat} (hn : l.most = some n) {P : Params} {h : Heap} {args : List WData} {vals : List Value}
    (hpre : l.row.toRowW.claim.pre args = true) (hwl : WellAll P h vals args) :
    ∃ a vs ns, vals = [Value.ref a] ∧ args = [WData.list (ns.map WData.int)] ∧ h.get? a = some { cls := .type "list", data := .seq vs.toArray } ∧ IntsAre vs ns ∧ ns.length ≤ n := by
  have hsh : WShape.hasAll [] args [.list .int] = true := (pre_splitW hpre).1
  have hc : l.pre.holds [] { args := args } = true := (pre_splitW hpre).2
  obtain ⟨d, r, rfl, h1, h2⟩ := hasAllW_cons hsh
  obtain rfl := hasAllW_nil h2
  obtain ⟨xs, rfl, h3⟩ := hasW_list h1
  obtain ⟨ns, rfl⟩ := items_int h3
  have hlen : ns.length ≤ n := by
    unfold OpenLaw.pre at hc
    have h4 : (WTm.not (.lt (.lit (.int (n : Int))) (.len (.arg 0)))).holds [] { args := [.list (ns.map .int)] } = true := by
      have h4 := (holds_andW hc).1
      rw [hn] at h4
      exact h4
    have h5 := condW_of h4 (w_not (w_lt w_lit (w_len_list (w_arg rfl))))
    rw [List.length_map] at h5
    refine Nat.le_of_not_lt fun q => ?_
    have q' : (n : Int) < ((ns.length : Nat) : Int) := by omega
    first
      | (rw [decide_eq_true q'] at h5; exact absurd h5 (by decide))
      | (simp at h5; omega)
  cases hwl with
  | cons w1 w2 =>
    cases w2
    cases w1 with
    | list ho hall => exact ⟨_, _, ns, rfl, rfl, ho, ints_of_wellAll ns _ hall, hlen⟩

theorem post_true (l : OpenLaw) (args : List WData) : l.row.toRowW.claim.post args (.bool true) args = true :=
  postW_of (r := l.row.toRowW) (X := (true == true))
    (show WShape.has [] (.bool true) .bool = true by first | rfl | decide | simp [WShape.has, WShape.arms, WShape.armsAll])
    (show (WTm.eq .res (.lit (.bool true))).value [] { args := args, res := some (.bool true), after := args } = some (.bool (true == true)) from w_eq_bool (w_res rfl) w_lit) rfl

/-! ### the attachment: holds_open's last premise (the goal 'hc' behind k_head) from a wpAny of the law's body -/
/-! ### rules over ANY heap (no ledger) from facts about the written part K: the library's own take a ledger (News) for what they write -/
section
variable {prog : Program} {w : World} {A : Around} {E : Value → Shared → Prop} {s : Shared} {K : Frag}

/-! the whole heap as the ledger: makes every rule that writes through a ledger a rule over any heap -/
def noObjs (h : Heap) : Heap := { h with objs := #[] }
def ledger (h : Heap) (L d : Addr) : List (Addr × Obj) := (List.range h.objs.size).filterMap fun a => if a = L ∨ a = d then none else (h.get? a).map fun o => (a, o)
end
end Att

namespace L2
open PySem PySem.Spec PyProof.Rows

theorem vals_ints : ∀ {vs : List Value} {ns : List Int}, IntsAre vs ns → Vals (ns.map V.int) vs
  | _, _, .nil => .nil
  | _, _, .cons n t h => .cons ⟨t, rfl⟩ (vals_ints h)

/-- nothing is tracked but the script, known to the object (or it is an object of the module) -/
def Only (H : Hp) : Prop := ∀ b, H b = none ∨ ∃ o xs, H b = some (.frz o (.lst xs))

/-- THE HEAD: the law's promise, at the heap behind the top. F, the promise of the law's def, may use that base is part of the heap (so K.In base, base.Ns mainGlobals mg stand in Mod) -/
theorem law_call {P : Program} {w : World} {K : PySem.W.Frag} {mg mb : Str → Option Value} {CX : CXT} {k : Nat} {fa a : Addr} {fd : FuncData} {x : Str} {sp : Sp} {s₁ : Shared} {vs : List Value} {ns : List Int}
    (KX : K.In s₁.heap) (hns : s₁.heap.Ns mainGlobals mg) (hb : s₁.heap.Ns builtinsNs mb) (hbb : ∀ x : Str, x ≠ "__name__" → mb x = bootBuiltins x) (hlim : s₁.heap.NoLimit) (hg : s₁.gens = #[])
    (ha : s₁.heap.get? a = some { cls := .type "list", data := .seq vs.toArray }) (hi : IntsAre vs ns) (hl : ns.length ≤ sizeLine) (hr : Room k callerA)
    (F : ∀ base : Heap, K.In base → base.Ns mainGlobals mg → FnOk P w K mg base CX k fa fd [x] sp) (hbind : ∀ (s : Shared) (u : Value), BindsTo s fd ⟨[u], []⟩ [(x, u)])
    (hsp : ∀ H : Hp, Only H → SqL K H a (ns.map V.int) → sp [.ref a] H (fun v _ => v = .bl true) fun _ _ _ => False)
    (hCX : ∀ H e s', CX [] H s₁ (fun _ _ _ => False) e s' → False) :
    codeAny (model P w) callerA (.call (.ref fa) ⟨[.ref a], []⟩) (fun r s' => r = .ok (.ret (.bool true)) ∧ OldK s₁.heap s'.heap ∧ s'.os = s₁.os ∧ AllBare s'.gens) s₁ := by
  have rv := vals_ints hi
  have lenV := hi.length
  -- from an abstract heap in which nothing but the script may be tracked
  have core : ∀ H : Hp, Only H → SqL K H a (ns.map V.int) → HOk P w H s₁.heap → (∀ b, H b ≠ none → b = a) → (H a ≠ none → K.lookup a = none) →
      codeAny (model P w) callerA (.call (.ref fa) ⟨[.ref a], []⟩) (fun r s' => r = .ok (.ret (.bool true)) ∧ OldK s₁.heap s'.heap ∧ s'.os = s₁.os ∧ AllBare s'.gens) s₁ := by
    intro H hO hS hok hA hK
    have base_of : ∀ {b : Addr} {o : Obj}, s₁.heap.get? b = some o → H b = none → (hidT s₁.heap H).get? b = some o := fun e n => hidT_get e n
    have noA : ∀ {b : Addr} {o : Obj} {es : Array DictEntry} {ep : Nat}, s₁.heap.get? b = some o → o.data = .dict es ep → H b = none := fun {b o es ep} e d => by
      cases q : H b with
      | none => rfl
      | some u =>
        have e' : b = a := hA b (by rw [q]; simp)
        subst e'
        rw [ha] at e; cases e
        have d' : Data.seq vs.toArray _ = Data.dict es ep := d
        cases d'
    have nsK : ∀ {b : Addr} {m : Str → Option Value}, s₁.heap.Ns b m → (hidT s₁.heap H).Ns b m := fun {b m} ⟨o, es, ep, e, d, r⟩ => ⟨o, es, ep, base_of e (noA e d), d, r⟩
    have hKb : K.In (hidT s₁.heap H) := fun b o e => base_of (KX b o e) (by
      cases q : H b with
      | none => rfl
      | some u =>
        have e' : b = a := hA b (by rw [q]; simp)
        subst e'
        rw [hK (by rw [q]; simp)] at e; cases e)
    have hM : Mod K mg (hidT s₁.heap H) := ⟨hKb, nsK hns, ⟨mb, nsK hb, hbb⟩, let ⟨mc, h1, h2⟩ := hlim; ⟨mc, nsK h1, h2⟩⟩
    have e0 : Env0 P w K mg (hidT s₁.heap H) callerA [] s₁ H := ⟨rfl, hM, fun b o e => of_hidT e, Nat.le_of_eq (hidT_size _ _), trivial, fun b hb => absurd (show b ∈ ([] : List Addr) from hb) (by simp), hok, .of_eq hg⟩
    refine codeAny_mono ((F _ hKb (nsK hns)).run callerA [] s₁ H ⟨[.ref a], []⟩ [.ref a] [.ref a] _ _ hr e0 (hbind s₁ (.ref a)) (.cons rfl .nil) (hsp H hO hS)) fun r s' h => ?_
    cases r with
    | error e => exact (hCX H e s' h).elim
    | ok fl =>
      cases fl with
      | next => exact False.elim h
      | brk => exact False.elim h
      | cont => exact False.elim h
      | ret u =>
        obtain ⟨v, H', os, bare, un, hok', r', q⟩ := h
        have q' : v = .bl true := q
        subst q'
        obtain rfl : u = Value.bool true := r'
        refine ⟨rfl, OldK.of_keep fun b o e => ?_, os, bare⟩
        cases q : H b with
        | none => exact un.keep b o e q (by intro z; exact absurd (show b ∈ ([] : List Addr) from z) (by simp)) (by simp)
        | some u =>
          rcases hO b with z | ⟨ob, xs, z⟩
          · rw [q] at z; cases z
          · have z2 := un.frzs b ob _ z
            obtain ⟨e1, _⟩ := hok b _ z
            obtain ⟨e2, _⟩ := hok' b _ z2
            rw [e] at e1; cases e1
            exact e2
  cases hk : K.lookup a with
  | some o =>
    -- the script is one of the module's own objects
    have e := KX a o hk
    rw [ha] at e
    cases e
    refine core (fun _ => none) (fun _ => .inl rfl) (.inr ⟨_, vs.toArray, _, hk, rfl, rfl, rfl, by rw [List.size_toArray, lenV]; exact hl, by simpa using rv⟩) (fun b u z => by have z' : (none : Option HO) = some u := z; cases z') (fun b z => absurd rfl z) fun z => absurd rfl z
  | none =>
    refine core (fun b => if b = a then some (.frz { cls := .type "list", data := .seq vs.toArray } (.lst (ns.map V.int))) else none) (fun b => ?_) (.inl (.inr ⟨{ cls := .type "list", data := .seq vs.toArray }, if_pos rfl⟩)) (fun b u z => ?_) (fun b z => ?_) fun _ => hk
    · by_cases hb : b = a
      · exact .inr ⟨_, _, if_pos hb⟩
      · exact .inl (if_neg hb)
    · by_cases hb : b = a
      · have z' := (if_pos hb).symm.trans z
        cases z'
        subst hb
        exact ⟨ha, by rw [List.length_map]; exact hl, vs, _, rv, ha⟩
      · have z' := (if_neg hb).symm.trans z
        cases z'
    · by_cases hb : b = a
      · exact hb
      · exact absurd (if_neg hb) z
end L2

namespace L2
open PySem PySem.Spec PyProof.Rows

abbrev KOf {K : PySem.W.Frag} {h : Heap} (_ : K.In h) : PySem.W.Frag := K

end L2

/-! SHORT WORDS over the layer: a def of the text, its body, what a loop and a test want. -/
namespace L2
open PySem PySem.Spec PyProof.Rows

/-! ### the text by places -/
/-- the j-th statement of a class's body -/
def inClass (s : Stmt) (j : Nat) : Stmt := match s with
  | .ClassDef _ _ _ body _ _ _ _ _ _ _ => body.getD j (.Pass ⟨0, 0, 0, 0⟩)
  | _ => .Pass ⟨0, 0, 0, 0⟩
def defArgs (s : Stmt) : Arguments := match s with
  | .FunctionDef _ a _ _ _ _ _ _ _ _ => a
  | _ => { posonlyargs := [], args := [], vararg := none, kwonlyargs := [], kw_defaults := [], kwarg := none, defaults := [] }
def defBody (s : Stmt) : List Stmt := match s with
  | .FunctionDef _ _ b _ _ _ _ _ _ _ => b
  | _ => []
def defScope (s : Stmt) : Scope := match s with
  | .FunctionDef _ _ _ _ _ _ sc _ _ _ => sc
  | _ => { kind := .function, names := [], isGenerator := false, isCoroutine := false }

/-! ### no exception leaves a def -/
abbrev CX0 : CXT := fun _ _ _ _ _ _ => False
abbrev E0 : XK := fun _ _ _ => False
theorem pass0 {X : Cx} : Passes CX0 X E0 := fun _ _ _ _ _ _ _ h => h.elim

/-! ### a def (or method) of the text as it stands behind the top -/
structure Fun (K : PySem.W.Frag) (x qual : Str) (st : Stmt) (f : Addr) (fd : FuncData) : Prop where
  ex : ∃ (oc : Value) (od : Option Addr) (kV doc pm : Value) (an : Option Addr) (cdv ct : Value) (osl : Array (Option Value)),
    fd = PySem.W.fnOf x qual (defArgs st) (defBody st) (defScope st) .none kV doc pm an cdv ct ∧ K.lookup f = some ⟨oc, od, .func fd, osl⟩ ∧ PySem.W.codeIn K cdv qual = true
  kp : PySem.W.keepIn K (.ref f) = true
section
variable {P : Program} {w : World} {K : PySem.W.Frag} {mg : Str → Option Value} {base : Heap}
/-- THE RULE for a def: its body as a term of rules, and the reading of that term -/
theorem Fun.ok {x qual : Str} {st : Stmt} {f : Addr} {fd : FuncData} {N ps : List Str} {k : Nat} {sp : Sp} (F : Fun K x qual st f fd) (S : FnScope N ps (defScope st)) (len : ∀ vs H Q E, sp vs H Q E → vs.length = ps.length)
    (hbody : ∀ (cdv : Value) (A : Around) (outer : List Env) (s : Shared) (H : Hp) (vs : List V) (Q : VK) (E : XK), Room k (A.deeper (envOfC qual (defScope st) s.heap.objs.size f cdv)) → sp vs H Q E →
      ∃ t, PSs (cxOf CX0 P w K mg base N qual (defScope st) f cdv A outer s H E).nox (defBody st) t ∧ t { nx := fun _ H' => Q .non H', rt := Q } (start N vs) H) : FnOk P w K mg base CX0 (k + 1) f fd ps sp := by
  obtain ⟨oc, od, kV, doc, pm, an, cdv, ct, osl, rfl, lk, hcd⟩ := F.ex
  refine fn_of lk hcd S len fun A outer s H vs Q E hr hsp => ?_
  obtain ⟨t, h, q⟩ := hbody cdv A outer s H vs Q E hr hsp
  exact ⟨t, h.nox, q⟩
/-- how its arguments bind (no defaults): h is «fun _ _ _ _ _ _ us hl => match us, hl with | [_, _], _ => rfl», one _ a parameter -/
theorem Fun.binds {x qual : Str} {st : Stmt} {f : Addr} {fd : FuncData} {ps : List Str} (F : Fun K x qual st f fd)
    (h : ∀ (kV doc pm : Value) (an : Option Addr) (cdv ct : Value) (us : List Value), us.length = ps.length → bindArgs (PySem.W.fnOf x qual (defArgs st) (defBody st) (defScope st) .none kV doc pm an cdv ct) ⟨us, []⟩ = pure (ps.zip us)) : Binds K fd ps [] := by
  obtain ⟨oc, od, kV, doc, pm, an, cdv, ct, osl, rfl, lk, hcd⟩ := F.ex
  exact .all (h kV doc pm an cdv ct)
theorem fun_mk {x qual : Str} {st : Stmt} {f : Addr} {oc : Value} {od an : Option Addr} {osl : Array (Option Value)} {kV doc pm cdv ct : Value} (l : K.lookup f = some ⟨oc, od, .func (PySem.W.fnOf x qual (defArgs st) (defBody st) (defScope st) .none kV doc pm an cdv ct), osl⟩)
    (c : PySem.W.codeIn K cdv qual = true) (k : PySem.W.keepIn K (.ref f) = true) : Fun K x qual st f (PySem.W.fnOf x qual (defArgs st) (defBody st) (defScope st) .none kV doc pm an cdv ct) := ⟨⟨oc, od, kV, doc, pm, an, cdv, ct, osl, rfl, l, c⟩, k⟩
end
/-! ### expressions in short: the name that stands in the i-th slot -/
section
variable {X : Cx}
end

/-! ### tests -/
/-! ### heaps -/
/-- all that was tracked is as it was -/
def Same (H H' : Hp) : Prop := ∀ b o, H b = some o → H' b = some o
theorem Same.refl (H : Hp) : Same H H := fun _ _ h => h
theorem Same.trans {H H1 H2 : Hp} (a : Same H H1) (b : Same H1 H2) : Same H H2 := fun c o h => b c o (a c o h)
theorem Same.seq {K : PySem.W.Frag} {H H' : Hp} {a : Addr} {xs : List V} (e : Same H H') (h : SqL K H a xs) : SqL K H' a xs := by
  rcases h with (h | ⟨o, h⟩) | h
  · exact .inl (.inl (e _ _ h))
  · exact .inl (.inr ⟨o, e _ _ h⟩)
  · exact .inr h

end L2

set_option Elab.async false
set_option linter.all false
set_option maxRecDepth 100000
set_option maxHeartbeats 1000000
namespace L2
open PySem PySem.Spec PyProof.Rows

/-! ### the closure that a comprehension takes along -/
def clOf (cells : List (Str × Addr)) : List (Str × NameKind) → List (Str × Addr) → List (Str × Addr)
  | [], cs => cs
  | (n, .free) :: r, cs => clOf cells r (match cells.lookup n with | some a => (n, a) :: cs | none => cs)
  | (_, _) :: r, cs => clOf cells r cs
theorem clOf_free {cells : List (Str × Addr)} {n : Str} {r : List (Str × NameKind)} {cs : List (Str × Addr)} {a : Addr} (h : cells.lookup n = some a) : clOf cells ((n, .free) :: r) cs = clOf cells r ((n, a) :: cs) := by
  show clOf cells r (match cells.lookup n with | some a => (n, a) :: cs | none => cs) = _
  rw [h]
theorem clOf_other {cells : List (Str × Addr)} {n : Str} {k : NameKind} {r : List (Str × NameKind)} {cs : List (Str × Addr)} (h : k ≠ .free) : clOf cells ((n, k) :: r) cs = clOf cells r cs := by
  cases k <;> first | rfl | exact absurd rfl h
theorem clOf_all {cells : List (Str × Addr)} : ∀ {l : List (Str × NameKind)} {cs : List (Str × Addr)}, (∀ p ∈ cs, cells.lookup p.1 = some p.2) → ∀ p ∈ clOf cells l cs, cells.lookup p.1 = some p.2
  | [], _, h => h
  | (n, k) :: r, cs, h => by
    by_cases hk : k = .free
    · subst hk
      cases e : cells.lookup n with
      | none =>
        have : clOf cells ((n, .free) :: r) cs = clOf cells r cs := by
          show clOf cells r (match cells.lookup n with | some a => (n, a) :: cs | none => cs) = _
          rw [e]
        rw [this]; exact clOf_all h
      | some a =>
        rw [clOf_free e]
        refine clOf_all fun p hp => ?_
        rcases List.mem_cons.mp hp with rfl | hp
        · exact e
        · exact h p hp
    · rw [clOf_other hk]; exact clOf_all h
theorem clOf_keeps {cells : List (Str × Addr)} : ∀ {l : List (Str × NameKind)} {cs : List (Str × Addr)} {p : Str × Addr}, p ∈ cs → p ∈ clOf cells l cs
  | [], _, _, h => h
  | (n, k) :: r, cs, p, h => by
    by_cases hk : k = .free
    · subst hk
      show p ∈ clOf cells r (match cells.lookup n with | some a => (n, a) :: cs | none => cs)
      cases e : cells.lookup n with
      | none => exact clOf_keeps h
      | some a => exact clOf_keeps (List.mem_cons_of_mem _ h)
    · rw [clOf_other hk]; exact clOf_keeps h
theorem clOf_has {cells : List (Str × Addr)} {x : Str} {c : Addr} (hc : cells.lookup x = some c) : ∀ {l : List (Str × NameKind)} {cs : List (Str × Addr)}, (x, NameKind.free) ∈ l → (x, c) ∈ clOf cells l cs
  | (n, k) :: r, cs, h => by
    rcases List.mem_cons.mp h with e | h2
    · cases e
      rw [clOf_free hc]
      exact clOf_keeps List.mem_cons_self
    · by_cases hk : k = .free
      · subst hk
        show (x, c) ∈ clOf cells r (match cells.lookup n with | some a => (n, a) :: cs | none => cs)
        exact clOf_has hc h2
      · rw [clOf_other hk]; exact clOf_has hc h2
theorem lookup_of_mem {α β : Type} [BEq α] [LawfulBEq α] {x : α} {c : β} : ∀ {l : List (α × β)}, (x, c) ∈ l → ∃ d, l.lookup x = some d
  | (n, a) :: r, h => by
    cases e : x == n with
    | true => exact ⟨a, by simp only [List.lookup_cons, e]⟩
    | false =>
      rcases List.mem_cons.mp h with q | q
      · cases q; simp at e
      · obtain ⟨d, hd⟩ := lookup_of_mem q
        exact ⟨d, by simp only [List.lookup_cons, e]; exact hd⟩
theorem cl_sub {cells : List (Str × Addr)} {l : List (Str × NameKind)} {x : Str} {c : Addr} (h : (clOf cells l []).lookup x = some c) : cells.lookup x = some c :=
  clOf_all (l := l) (cs := []) (fun _ hp => absurd hp (by simp)) (x, c) (PySem.mem_of_lookup h)
theorem cl_get {cells : List (Str × Addr)} {l : List (Str × NameKind)} {x : Str} {c : Addr} (hc : cells.lookup x = some c) (h : (x, NameKind.free) ∈ l) : (clOf cells l []).lookup x = some c := by
  obtain ⟨d, hd⟩ := lookup_of_mem (clOf_has (cs := []) hc h)
  rw [hd, ← hc, cl_sub hd]

theorem closureFor_of {scope : Scope} {env : Env} (h : ∀ n, (n, NameKind.free) ∈ scope.names → ∃ c, env.cells.lookup n = some c) : closureFor scope env = pure (clOf env.cells scope.names []) := by
  have go : ∀ (l : List (Str × NameKind)) (cs : List (Str × Addr)), (∀ n, (n, NameKind.free) ∈ l → ∃ c, env.cells.lookup n = some c) →
      (forIn l cs (fun (x : Str × NameKind) (r : List (Str × Addr)) => match x with
        | (name, kind) => if (kind == NameKind.free) = true then (do let c ← cellOf env name; pure (ForInStep.yield ((name, c) :: r))) else (do pure PUnit.unit; pure (ForInStep.yield r))) : Sem (List (Str × Addr))) = pure (clOf env.cells l cs) := by
    intro l
    induction l with
    | nil => intro cs _; rfl
    | cons p r ih =>
      intro cs hl
      obtain ⟨n, k⟩ := p
      have hr := ih
      by_cases hk : k = .free
      · subst hk
        obtain ⟨c, hc⟩ := hl n List.mem_cons_self
        rw [clOf_free hc]
        rw [← ih ((n, c) :: cs) fun m hm => hl m (List.mem_cons_of_mem _ hm)]
        rw [List.forIn_cons]
        simp only [cellOf, hc, beq_self_eq_true, if_true]
        rfl
      · rw [clOf_other hk]
        rw [← ih cs fun m hm => hl m (List.mem_cons_of_mem _ hm)]
        rw [List.forIn_cons]
        have hb : (k == NameKind.free) = false := by simpa using hk
        simp only [hb, Bool.false_eq_true, if_false]
        rfl
  have e := go scope.names [] h
  unfold closureFor
  first
    | exact congrArg (fun m => m >>= pure) e
    | (simp only [bind_pure]; exact e)
    | (rw [show (pure (clOf env.cells scope.names []) : Sem (List (Str × Addr))) = (pure (clOf env.cells scope.names []) >>= pure) from rfl, ← e]; rfl)


/-! ### the block of a comprehension -/
def compCx (X : Cx) (scope : Scope) (N' : List Str) (C : Addr) (s : Shared) (H : Hp) (ex : List Addr) : Cx where
  prog := X.prog
  w := X.w
  K := X.K
  mg := X.mg
  base := X.base
  A := X.A
  N := N'
  s₀ := s
  H₀ := H
  env := compEnvC scope (clOf X.env.cells scope.names []) C X.env
  outer := X.stack
  stack := X.stack
  ex := ex
  fn := fun _ => false
  calm := X.calm
  pn := []
  xe := fun _ _ => False

/-- what of the text a comprehension's scope must have; pk: where each name of N' stands among the names around it (none: its own) -/
structure CompScope (X : Cx) (scope : Scope) (N' : List Str) (pk : List (Option Nat)) : Prop where
  kind : scope.kind = .function
  nocell : ∀ y ∈ scope.names, y.2 ≠ .cell
  loc : ∀ y ∈ scope.names, y.2 = .local → scope.names.lookup y.1 = some .local
  free : ∀ n, (n, NameKind.free) ∈ scope.names → X.env.kindOf n = some .cell ∨ X.env.kindOf n = some .free
  nofl : ∀ n, (n, NameKind.free) ∈ scope.names → scope.names.lookup n ≠ some .local
  pl : pk.length = N'.length
  pn : ∀ (j i : Nat) (x : Str), pk[j]? = some (some i) → N'[j]? = some x → X.N[i]? = some x ∧ (x, NameKind.free) ∈ scope.names

/-- the names' values at a turn's begin -/
def pick (pk : List (Option Nat)) (σ : St) : St := pk.map fun o => o.bind fun i => (σ[i]?).join

theorem mem_of_relabel {scope : Scope} {env : Env} {x : Str} (hn : ∀ y ∈ scope.names, y.2 ≠ .cell) (h : (relabel scope env).names.lookup x = some .cell ∨ (relabel scope env).names.lookup x = some .free) : (x, NameKind.free) ∈ scope.names := by
  have go : ∀ k, (relabel scope env).names.lookup x = some k → (k = .cell ∨ k = .free) → (x, NameKind.free) ∈ scope.names := fun k e hk => by
    have m := PySem.mem_of_lookup e
    obtain ⟨p, hp, e2⟩ := List.mem_map.mp m
    obtain ⟨n, k'⟩ := p
    dsimp only at e2
    by_cases hc : (k' == NameKind.free && env.scope.kind == .function && env.kindOf n == some .cell) = true
    · rw [if_pos hc] at e2
      have hk' : k' = .free := by
        simp only [Bool.and_eq_true] at hc
        simpa using hc.1.1
      have en : n = x := (Prod.mk.inj e2).1
      rw [← en, ← hk']; exact hp
    · rw [if_neg hc] at e2
      have en : n = x := (Prod.mk.inj e2).1
      have ek : k' = k := (Prod.mk.inj e2).2
      rcases hk with hk | hk
      · exact absurd (ek.trans hk) (hn _ hp)
      · rw [← en, ← hk, ← ek]; exact hp
  rcases h with h | h
  · exact go _ h (.inl rfl)
  · exact go _ h (.inr rfl)

section
variable {X : Cx} {pins : List (Addr × Obj)} {σ : St} {H : Hp} {s : Shared} {scope : Scope} {N' : List Str} {pk : List (Option Nat)} {fp : List Addr}

theorem comp_ok (I : Inv X pins σ H s) (S : CompScope X scope N' pk) {C : Addr} (hC : s.heap.objs.size ≤ C) (hf : ∀ b ∈ fp, FpOk X pins H b) (hfs : ∀ b ∈ fp, b < s.heap.objs.size) : (compCx X scope N' C s H fp).Ok where
  mod := I.ok.mod
  kind := S.kind
  glob := I.ok.glob
  blt := I.ok.blt
  above := hC
  inj := fun x y c h1 h2 => I.ok.inj x y c (cl_sub h1) (cl_sub h2)
  has := fun x h => by
    have m : (x, NameKind.free) ∈ scope.names := mem_of_relabel S.nocell h
    obtain ⟨c, hc⟩ := I.ok.has x (S.free x m)
    exact ⟨c, cl_get hc m⟩
  cab := fun x c h _ => nomatch h
  hd := I.ok.hd
  frames := I.ok.frames
  stk := .inl rfl
  exf := fun b hb => ⟨Nat.ne_of_lt (Nat.lt_of_lt_of_le (hfs b hb) hC), fun x c e => (hf b hb).2.2.2.2.1 x c (cl_sub e)⟩
  bs := I.bs
  bsz := Nat.le_trans I.ok.bsz I.sz
  noex := fun b o e hb => by
    rcases (hf b hb).2.2.2.1 with z | z
    · exact I.ok.noex b o e z
    · exact absurd (Nat.lt_of_lt_of_le (Heap.lt_size e) (Nat.le_trans I.ok.bsz z)) (Nat.lt_irrefl _)
  exfs := fun b hb z => by
    rcases List.mem_cons.mp (I.stkSub b z) with e | e
    · exact (hf b hb).2.1 e
    · exact (hf b hb).2.2.1 e
  funs := I.stack
  frf := I.stkFree

theorem pick_get {pk : List (Option Nat)} {σ : St} {j : Nat} {v : V} (h : (pick pk σ)[j]? = some (some v)) : ∃ i, pk[j]? = some (some i) ∧ σ[i]? = some (some v) := by
  unfold pick at h
  rw [List.getElem?_map] at h
  cases e : pk[j]? with
  | none => rw [e] at h; cases h
  | some o =>
    rw [e] at h
    cases o with
    | none => cases h
    | some i =>
      refine ⟨i, rfl, ?_⟩
      have h' : (σ[i]?).join = some v := Option.some.inj h
      cases q : σ[i]? with
      | none => rw [q] at h'; cases h'
      | some z => rw [q] at h'; rw [show z = some v from h']

theorem comp_inv {s4 : Shared} {C D : Addr} {od : Obj} (I : Inv X pins σ H s) (S : CompScope X scope N' pk) (hC : s.heap.objs.size ≤ C) (hf : ∀ b ∈ fp, FpOk X pins H b) (hfs : ∀ b ∈ fp, b < s.heap.objs.size)
    (hos : s4.os = s.os) (hg : s4.gens = s.gens) (old : ∀ b o, s.heap.get? b = some o → s4.heap.get? b = some o) (hns : s4.heap.Ns C fun _ => none) (hD : s.heap.objs.size ≤ D) (hDC : D ≠ C) (hDo : s4.heap.get? D = some od) (hDd : ∀ v, od.data ≠ .cell v) :
    Inv (compCx X scope N' C s H fp) [(D, od)] (pick pk σ) H s4 where
  ok := comp_ok I S hC hf hfs
  os := hos
  bare := by rw [hg]; exact I.bare
  base := Un.kept old
  loc := ⟨_, hns, fun j x v h1 h2 h3 => by
    obtain ⟨i, e1, e2⟩ := pick_get h2
    obtain ⟨hN, hm⟩ := S.pn j i x e1 h1
    obtain ⟨m, hn, hl⟩ := I.loc
    have hk := S.free x hm
    obtain ⟨c, hc⟩ := I.ok.has x hk
    have hv : Vis X.env.scope x := by
      rcases hk with k | k
      · exact .inr (.inl k)
      · exact .inr (.inr k)
    obtain ⟨u, r, l⟩ := hl i x v hN e2 hv
    refine ⟨u, r, .inr ⟨?_, c, cl_get hc hm, ?_⟩⟩
    · rcases h3 with h3 | h3 | h3
      · exfalso
        -- a name cannot be local and free
        have h3' : (relabel scope X.env).names.lookup x = some .local := h3
        obtain ⟨p, hp, e⟩ := List.mem_map.mp (PySem.mem_of_lookup h3')
        obtain ⟨n, k'⟩ := p
        dsimp only at e
        by_cases hcnd : (k' == NameKind.free && X.env.scope.kind == .function && X.env.kindOf n == some .cell) = true
        · rw [if_pos hcnd] at e; exact nomatch (Prod.mk.inj e).2
        · rw [if_neg hcnd] at e
          have en : n = x := (Prod.mk.inj e).1
          have ek : k' = .local := (Prod.mk.inj e).2
          have q := S.loc _ hp ek
          have q2 : (relabel scope X.env).names.lookup x = some .local := h3'
          -- (x, free) is in the list too, but the kind at x is found by lookup: free would be found by a cell
          exact S.nofl x hm (by rw [← en]; exact q)
      · exact .inl h3
      · exact .inr h3
    · rcases l with ⟨k, _⟩ | ⟨_, c', e, z⟩
      · rcases hk with k' | k' <;> (rw [k'] at k; cases k)
      · rw [hc] at e; cases e
        obtain ⟨o, ho, hd⟩ := z
        exact ⟨o, old _ _ ho, hd⟩⟩
  cell := fun x c h => by
    obtain ⟨v, o, ho, hd⟩ := I.cell x c (cl_sub h)
    exact ⟨v, o, old _ _ ho, hd⟩
  free := I.hok.fresh hC
  freeC := fun x c h => I.freeC x c (cl_sub h)
  pin := fun p hp => by
    have e : p = (D, od) := by simpa using (show p ∈ ([] : List (Addr × Obj)) ++ [(D, od)] from hp)
    subst e
    refine ⟨hDo, I.hok.fresh hD, hDC, fun z => ?_, hDd⟩
    obtain ⟨_, o, ho, _⟩ := I.stack.mem z
    exact absurd (Nat.lt_of_lt_of_le (Heap.lt_size ho) hD) (Nat.lt_irrefl _)
  hok := I.hok.kept old
  len := by unfold pick; rw [List.length_map]; exact S.pl
end
end L2

set_option Elab.async false
set_option linter.all false
set_option maxRecDepth 100000
set_option maxHeartbeats 1000000
namespace L2
open PySem PySem.Spec PyProof.Rows

theorem append_raw {prog : Program} {w : World} {A : Around} {E : Value → Shared → Prop} {s : Shared} {l : Addr} {its : Array Value} {n : Nat} {x : Value} {Q : Value → Shared → Prop}
    (e : s.heap.get? l = some { cls := .type "list", data := .seq its n }) (hsz : its.size ≤ sizeLine)
    (hQ : ∀ h' n', h'.get? l = some { cls := .type "list", data := .seq (its.push x) n' } → Heap.SameBut l s.heap h' → Q .none { s with heap := h' }) :
    wpAny (model prog w) A (call (.builtin "list.append") [.ref l, x]) Q E s := by
  have hl : s.heap.IsList l its := PySem.IsL.isList e
  refine wpAny_call_entry slot_list_append hl.typeIs entry_list_append ?_ (args_list_append _ _)
  show wpAny _ _ (updateSeq l (·.push x) >>= fun _ => ret .none) _ _ s
  refine wpAny_bind ?_
  have q : (s.heap.update l (Obj.mapSeq (·.push x))).get? l = some (Obj.mapSeq (·.push x) { cls := .type "list", data := .seq its n }) := Heap.get?_update_self _ e rfl
  exact wpAny_updateSeq e rfl (wpAny_pure ⟨.none, rfl, hQ _ _ q (Heap.SameBut.update ..)⟩)

section
variable {X : Cx} {pins : List (Addr × Obj)} {σ : St} {H H' : Hp} {s s' : Shared} {scope : Scope} {N' : List Str} {pk : List (Option Nat)} {fp : List Addr}

/-- an object that stands untracked is tracked from here on -/
theorem HOk.track {P : Program} {w : World} {H : Hp} {h : Heap} {a : Addr} {o : HO} (x : HOk P w H h) (hn : H a = none) (new : ObjOk P w (upd H a o) h a o) : HOk P w (upd H a o) h := fun b u e => by
  by_cases hb : b = a
  · subst hb; rw [upd_same] at e; cases e; exact new
  · rw [upd_ne hb] at e
    exact (x b u e).stay (fun c v _ q => q) (fun c q => by rw [upd_ne (ne_of_none q hn)]; exact q) fun c xs q => by rw [upd_ne (ne_of_none q hn)]; exact q
theorem HOk.but {P : Program} {w : World} {H : Hp} {h h' : Heap} {a : Addr} (x : HOk P w H h) (hn : H a = none) (k : ∀ b o, b ≠ a → h.get? b = some o → h'.get? b = some o) : HOk P w H h' := fun b u e =>
  (x b u e).stay (fun c v hc q => k c v (by
    rcases hc with rfl | hc
    · exact fun z => by rw [z, hn] at e; cases e
    · exact ne_of_none hc hn) q) (fun _ q => q) fun _ _ q => q

/-- behind a comprehension: the list is tracked, the block's own names are gone -/
theorem comp_out {C D : Addr} {h' : Heap} {ys : List V} {its : List Value} {n : Nat} {σ' : St} {pins' : List (Addr × Obj)} (I : Inv X pins σ H s) (hf : ∀ b ∈ fp, FpOk X pins H b)
    (J : Inv (compCx X scope N' C s H fp) pins' σ' H' s') (hC : s.heap.objs.size ≤ C) (hD : s.heap.objs.size ≤ D) (hDC : D ≠ C) (hDn : H' D = none) (e : s'.heap.get? D = some { cls := .type "list", data := .seq its.toArray n }) (r : Vals ys its)
    (hz : ys.length ≤ sizeLine) (sb : Heap.SameBut C s'.heap h') : Inv X pins σ (upd H' D (.lst ys)) { s' with heap := h' } := by
  have u : Un (frs X.stack) fp H H' s.heap s'.heap := J.base
  have keep : ∀ b o, b ≠ C → s'.heap.get? b = some o → h'.get? b = some o := fun b o hb q => (sb.2 b hb).trans q
  have old : ∀ b o, s.heap.get? b = some o → b ≠ C ∧ b ≠ D := fun b o q => ⟨Nat.ne_of_lt (Nat.lt_of_lt_of_le (Heap.lt_size q) hC), Nat.ne_of_lt (Nat.lt_of_lt_of_le (Heap.lt_size q) hD)⟩
  have hCn : H' C = none := J.free
  have hok : HOk X.prog X.w (upd H' D (.lst ys)) h' := by
    refine HOk.but (a := C) (HOk.track (h := s'.heap) J.hok hDn ⟨hz, its, n, r, e⟩) ?_ keep
    rw [upd_ne (Ne.symm hDC)]; exact hCn
  refine I.call' (s' := { s' with heap := h' }) (ch := fp) J.os ?_ hok J.bare fun b hb => ⟨(hf b hb).2.2.2.1, (hf b hb).2.1, (hf b hb).2.2.2.2.1, (hf b hb).2.2.2.2.2⟩
  refine ⟨fun b o q n hb hx => ?_, fun b o q n hb hx => ?_, fun b o q n hx => ?_, fun b o q hx => ?_, fun b xs q => ?_, fun b o xs q => ?_, fun b ps q => ?_⟩
  · exact keep b o (old b o q).1 (u.keep b o q n hb hx)
  · obtain ⟨sl, z⟩ := u.slot b o q n hb hx
    exact ⟨sl, keep b _ (old b o q).1 z⟩
  · rw [upd_ne (old b o q).2]; exact u.free b o q n hx
  · obtain ⟨o', z⟩ := u.there b o q hx
    exact ⟨o', keep b o' (old b o q).1 z⟩
  · have z := u.tups b xs q
    rw [upd_ne (ne_of_none z hDn)]; exact z
  · have z := u.frzs b o xs q
    rw [upd_ne (ne_of_none z hDn)]; exact z
  · obtain ⟨m, z⟩ := u.tbls b ps q
    exact ⟨m, by rw [upd_ne (ne_of_none z hDn)]; exact z⟩
end

/-! ### the rule -/
/-- the tests of a comprehension's one clause -/
def PTs (X : Cx) (es : List Expr) (t : TT) : Prop :=
  ∀ (pins : List (Addr × Obj)) (s : Shared) (σ : St) (H : Hp) (Q : Bool → Hp → Prop), Inv X pins σ H s → t σ H Q →
    wpAny (model X.prog X.w) X.A (forIn es true fun c r => if r = true then do let ok ← isTrue c X.env (eval c X.env); pure (ForInStep.yield ok) else pure (ForInStep.yield r)) (TP X pins σ Q) X.xe s
def tYes : TT := fun _ H Q => Q true H
theorem pts_nil {X : Cx} : PTs X [] tYes := fun pins s σ H Q I h => wpAny_tests_nil ⟨H, I, h⟩
theorem pts_one {X : Cx} {c : Expr} {t : TT} (h : PT X c t) : PTs X [c] t := fun pins s σ H Q I hq => wpAny_tests_one (h pins s σ H Q I hq)

/-- the values that stood at a turn's begin stand still -/
def Sup (σ σ' : St) : Prop := σ'.length = σ.length ∧ ∀ (i : Nat) v, σ[i]? = some (some v) → σ'[i]? = some (some v)

/-- W: what holds by the turn, a measure, the list so far -/
def tComp (pk : List (Option Nat)) (wi : TI) (g : TG) (tt : TT) (te : TE) : TE := fun σ H Q => wi σ H fun J H1 => ∃ W : Nat → Nat → List V → Hp → Prop, (∃ m, W 0 m [] H1) ∧ ∀ i m ys H, W i m ys H →
  (J.stop i H ∧ ys.length ≤ sizeLine ∧ ∀ p, H p = none → Q (.ref p) (upd H p (.lst ys))) ∨
  (J.go i H ∧ ys.length < sizeLine ∧ ∃ N : List V → Hp → Prop, (∀ zs H', N zs H' → ∃ m', m' < m ∧ W (i + 1) m' zs H') ∧ ∀ x H', J.yld i H x H' → g x (pick pk σ) H' fun σ2 H2 => Sup (pick pk σ) σ2 ∧ tt σ2 H2 fun b H3 =>
    if b = true then te σ2 H3 fun v H4 => N (ys ++ [v]) H4 else N ys H3)

/-- as Turn, in one place (calm or not) -/
structure TurnA (P : Program) (w : World) (K : PySem.W.Frag) (A₀ : Around) (c : Bool) (tg : Expr) (J : It) (fp : List Addr) (it : Addr) (tn : Nat → Heap → Prop) : Prop where
  mem : it ∈ fp
  obj : ∀ i h, tn i h → ∀ b ∈ fp, ∃ o, h.get? b = some o ∧ ∀ v, o.data ≠ .cell v
  keep : ∀ i h h', tn i h → (∀ b ∈ fp, ∀ o, h.get? b = some o → h'.get? b = some o) → tn i h'
  item : ∀ (X : Cx), X.prog = P → X.w = w → X.K = K → X.A = A₀ → X.calm = c → ∀ (i : Nat) (pins : List (Addr × Obj)) (s : Shared) (σ : St) (H : Hp) (E : Value → Shared → Prop), Inv X pins σ H s → (∀ b ∈ fp, FpOk X pins H b) → tn i s.heap → J.go i H →
    wpAny (model P w) X.A (pyNext (.ref it)) (fun r s1 => ∃ u, r = some u ∧
      wpAny (model P w) X.A (letOwnedTupleGo tg (.ref it) u) (fun _ s2 => ∃ x H', Inv X pins σ H' s2 ∧ RelV x u ∧ J.yld i H x H' ∧ tn (i + 1) s2.heap ∧ ∀ b ∈ fp, H' b = none) E s1) E s
  done : ∀ (X : Cx), X.prog = P → X.w = w → X.K = K → X.A = A₀ → X.calm = c → ∀ (i : Nat) (pins : List (Addr × Obj)) (s : Shared) (σ : St) (H : Hp) (E : Value → Shared → Prop), Inv X pins σ H s → (∀ b ∈ fp, FpOk X pins H b) → tn i s.heap → J.stop i H →
    wpAny (model P w) X.A (pyNext (.ref it)) (fun r s1 => r = none ∧ Inv X pins σ H s1) E s
  self : ∀ (A : Around) (i : Nat) (s : Shared) (Q : Value → Shared → Prop) (E : Value → Shared → Prop), tn i s.heap → Q (.ref it) s → wpAny (model P w) A (pyIter (.ref it)) Q E s
theorem Turn.toA {P : Program} {w : World} {K : PySem.W.Frag} {A₀ : Around} {c : Bool} {tg : Expr} {J : It} {fp : List Addr} {it : Addr} {tn : Nat → Heap → Prop} (T : Turn P w K tg J fp it tn) (hc : c = true) : TurnA P w K A₀ c tg J fp it tn :=
  ⟨T.mem, T.obj, T.keep, fun X h1 h2 h3 _ h5 => T.item X h1 h2 h3 (h5.trans hc), fun X h1 h2 h3 _ h5 => T.done X h1 h2 h3 (h5.trans hc), T.self⟩
/-- an iterator has come, wherever one is -/
def PIAE (X : Cx) (pins : List (Addr × Obj)) (σ : St) (tg : Expr) (R : It → Hp → Prop) (itv : Value) (s2 : Shared) : Prop :=
  ∃ (it : Addr) (fp : List Addr) (tn : Nat → Heap → Prop) (J : It) (H' : Hp), itv = .ref it ∧ Inv X pins σ H' s2 ∧ TurnA X.prog X.w X.K X.A X.calm tg J fp it tn ∧ tn 0 s2.heap ∧ (∀ b ∈ fp, FpOk X pins H' b) ∧ R J H'
def PIA (X : Cx) (tg iter : Expr) (t : TI) : Prop :=
  ∀ (pins : List (Addr × Obj)) (s : Shared) (σ : St) (H : Hp) (R : It → Hp → Prop), Inv X pins σ H s → t σ H R →
    wpAny (model X.prog X.w) X.A (eval iter X.env) (fun v s1 => wpAny (model X.prog X.w) X.A (pyIter v) (PIAE X pins σ tg R) X.xe s1) X.xe s
theorem PI.toA {X : Cx} {tg iter : Expr} {t : TI} (h : PI X tg iter t) (hc : X.calm = true) : PIA X tg iter t := fun pins s σ H R I q =>
  thn (h pins s σ H R I q) fun v s1 h1 => thn h1 fun itv s2 ⟨it, fp, tn, J, H2, e, I2, T, r⟩ => ⟨it, fp, tn, J, H2, e, I2, T.toA hc, r⟩

set_option maxHeartbeats 4000000 in
theorem comp_block {X : Cx} {pins : List (Addr × Obj)} {σ : St} {H : Hp} {s2 : Shared} {scope : Scope} {N' : List Str} {pk : List (Option Nat)} {fp : List Addr} {tg elt iter : Expr} {ifs : List Expr} {pos : Pos} {g : TG} {tt : TT} {te : TE}
    {J : It} {it : Addr} {tn : Nat → Heap → Prop} {R : Value → Addr → Result → Shared → Prop} {E : Value → Shared → Prop} {Q : VK}
    (S : CompScope X scope N' pk) (hg : ∀ C s H ex, PG (compCx X scope N' C s H ex) tg g) (ht : ∀ C s H ex, PTs (compCx X scope N' C s H ex) ifs tt) (he : ∀ C s H ex, PE (compCx X scope N' C s H ex) elt te)
    (I : Inv X pins σ H s2) (T : TurnA X.prog X.w X.K X.A X.calm tg J fp it tn) (st : tn 0 s2.heap) (hf : ∀ b ∈ fp, FpOk X pins H b)
    (hW : ∃ W : Nat → Nat → List V → Hp → Prop, (∃ m, W 0 m [] H) ∧ ∀ i m ys H, W i m ys H →
      (J.stop i H ∧ ys.length ≤ sizeLine ∧ ∀ p, H p = none → Q (.ref p) (upd H p (.lst ys))) ∨
      (J.go i H ∧ ys.length < sizeLine ∧ ∃ N : List V → Hp → Prop, (∀ zs H', N zs H' → ∃ m', m' < m ∧ W (i + 1) m' zs H') ∧ ∀ x H', J.yld i H x H' → g x (pick pk σ) H' fun σ2 H2 => Sup (pick pk σ) σ2 ∧ tt σ2 H2 fun b H3 =>
        if b = true then te σ2 H3 fun v H4 => N (ys ++ [v]) H4 else N ys H3))
    (hR : ∀ (C D : Addr) (s' : Shared) (ys : List V) (H' : Hp), (∃ m, s'.heap.Ns C m) → Q (.ref D) (upd H' D (.lst ys)) → (∀ h', Heap.SameBut C s'.heap h' → Inv X pins σ (upd H' D (.lst ys)) { s' with heap := h' }) → s2.heap.objs.size ≤ C → upd H' D (.lst ys) C = none →
      R (.ref D) C (.ok .next) s') :
    wpAny (model X.prog X.w) X.A (newList []) (fun acc s₃ => wpAny (model X.prog X.w) X.A (newFunctionEnv scope X.env.globals (clOf X.env.cells scope.names []) [] X.env.qual none .none (some X.env)) (fun cenv s₄ =>
      codeAny (model X.prog X.w) X.A (.compStart (.ListComp elt [⟨tg, iter, ifs, 0⟩] scope pos) 0 (.ref it) acc { cenv with scope := relabel scope X.env }) (R acc cenv.locals) s₄) E s₃) E s2 := by
  obtain ⟨W, ⟨m0, w0⟩, turn⟩ := hW
  refine wpAny_newObj_type (wpAny_newFunctionEnv S.nocell (by intro y hy; simp at hy) (fun h₁ hns₁ hsb₁ => ?_) S.kind)
  dsimp only at hns₁ hsb₁ ⊢
  generalize hH2 : s2.heap.push { cls := .type "list", dict := none, data := .seq ([] : List Value).toArray } = H2 at hns₁ hsb₁ ⊢
  have hC : H2.objs.size = s2.heap.objs.size + 1 := by rw [← hH2, Heap.size_push]
  have hDC : s2.heap.objs.size ≠ H2.objs.size := by rw [hC]; exact Nat.ne_of_lt (Nat.lt_succ_self _)
  have hCle : s2.heap.objs.size ≤ H2.objs.size := by rw [hC]; exact Nat.le_succ _
  have old : ∀ b o, s2.heap.get? b = some o → h₁.get? b = some o := fun b o e =>
    hsb₁.extBut b o (Nat.ne_of_lt (Nat.lt_of_lt_of_le (Heap.lt_size e) hCle)) (Heap.get?_push_of_some _ (hH2 ▸ Heap.get?_push_of_some _ e))
  have hacc : h₁.get? s2.heap.objs.size = some { cls := .type "list", data := .seq ([] : List Value).toArray } :=
    hsb₁.extBut _ _ hDC (Heap.get?_push_of_some _ (hH2 ▸ Heap.get?_push_size _ rfl))
  have hfs : ∀ b ∈ fp, b < s2.heap.objs.size := fun b hb => by
    obtain ⟨o, e, _⟩ := T.obj 0 _ st b hb
    exact Heap.lt_size e
  have st1 : tn 0 h₁ := T.keep 0 _ _ st fun b _ o e => old b o e
  have hLC : X.env.locals ≠ H2.objs.size := Nat.ne_of_lt (Nat.lt_of_lt_of_le I.lt hCle)
  generalize hCe : H2.objs.size = C at *
  generalize hDe : s2.heap.objs.size = D at *
  have hDle : s2.heap.objs.size ≤ D := by rw [hDe]; exact Nat.le_refl _
  have hCle' : s2.heap.objs.size ≤ C := by rw [hDe]; exact hCle
  have loop : ∀ s₃ : Shared, s₃ = { s2 with heap := h₁, toks := s2.toks + ([] : List (Str × Value)).length } →
      codeAny (model X.prog X.w) X.A (.compLoop (.ListComp elt [⟨tg, iter, ifs, 0⟩] scope pos) 0 (.ref it) (.ref D) (compEnvC scope (clOf X.env.cells scope.names []) C X.env)) (R (.ref D) C) s₃ := by
    rintro s₃ rfl
    refine codeAny_loop rfl (fun n s' => ∃ i H' ys its k, Inv (compCx X scope N' C s2 H fp) [(D, { cls := .type "list", data := .seq its k })] (pick pk σ) H' s' ∧ Vals ys its.toList ∧ tn i s'.heap ∧ (∀ b ∈ fp, H' b = none) ∧ W i n ys H') ?_ m0
      ⟨0, H, [], #[], 0, comp_inv I S hCle' hf (fun b hb => by rw [hDe]; exact hfs b hb) rfl rfl old (by simpa using hns₁) hDle hDC hacc (fun v z => nomatch z), .nil, st1, fun b hb => (hf b hb).1, w0⟩
    rintro n s3 ⟨i, H3, ys, its, k, I3, rv3, st3, fr3, w3⟩
    show wpAny _ _ ((compTurn (.ListComp elt [⟨tg, iter, ifs, 0⟩] scope pos) 0 (.ref it) (.ref D) (compEnvC scope (clOf X.env.cells scope.names []) C X.env)).onRaise (fun x => do noteFrame x (compEnvC scope (clOf X.env.cells scope.names []) C X.env); theTreesLotGoes x)) _ _ s3
    refine wpAny_noted ?_
    rw [compTurn_list]
    -- an exception never leaves the block
    have never : ∀ {α : Type} {t : Sem α} {Q' : α → Shared → Prop} {E' : Value → Shared → Prop} {s' : Shared}, wpAny (model X.prog X.w) X.A t Q' (fun _ _ => False) s' → wpAny (model X.prog X.w) X.A t Q' E' s' := fun h => wpAny_mono h (fun _ _ x => x) fun _ _ x => x.elim
    have fpY : ∀ {H' : Hp} {pins'}, (∀ b ∈ fp, H' b = none) → (∀ p ∈ pins', p.1 = D) → ∀ b ∈ fp, FpOk (compCx X scope N' C s2 H fp) pins' H' b := fun {H' pins'} hn hp b hb =>
      ⟨hn b hb, (I3.ok.exf b hb).1, I3.ok.exfs b hb, .inl hb, (I3.ok.exf b hb).2, fun p hp' z => by
        have hp2 : p ∈ pins' := by simpa using (show p ∈ ([] : List (Addr × Obj)) ++ pins' from hp')
        have q := hfs b hb
        rw [← z, hp p hp2] at q
        exact Nat.lt_irrefl _ q⟩
    have onlyD : ∀ p ∈ [(D, ({ cls := .type "list", data := .seq its k } : Obj))], p.1 = D := fun p hp => by
      have e : p = (D, ({ cls := .type "list", data := .seq its k } : Obj)) := by simpa using hp
      rw [e]
    have accAt : ∀ {pins' : List (Addr × Obj)} {σ' H' s'}, Inv (compCx X scope N' C s2 H fp) pins' σ' H' s' → (D, ({ cls := .type "list", data := .seq its k } : Obj)) ∈ pins' → s'.heap.get? D = some { cls := .type "list", data := .seq its k } ∧ H' D = none := fun {pins' σ' H' s'} J hm => by
      obtain ⟨a1, a2, _⟩ := J.pin _ (show (D, ({ cls := .type "list", data := .seq its k } : Obj)) ∈ ([] : List (Addr × Obj)) ++ pins' by simpa using hm)
      exact ⟨a1, a2⟩
    refine wpAny_bind (wpAny_standAt (wpAny_bind ?_))
    rcases turn i n ys H3 w3 with ⟨stop, hz, qn⟩ | ⟨go, hz, N, hN, step⟩
    · refine never (thn (T.done (compCx X scope N' C s2 H fp) rfl rfl rfl rfl rfl i _ s3 _ H3 (fun _ _ => False) I3 (fpY fr3 onlyD) st3 stop) fun r s4 ⟨hr, I4⟩ => ?_)
      subst hr
      refine wpAny_pure ?_
      obtain ⟨a1, a2⟩ := accAt I4 (by simp)
      obtain ⟨mC, hnC, _⟩ := I4.loc
      exact hR C D s4 ys H3 ⟨mC, hnC⟩ (qn D a2) (fun h' sb => comp_out I hf I4 hCle' hDle hDC a2 (its := its.toList) (n := k) (by simpa using a1) rv3 hz sb) hCle (by rw [upd_ne (Ne.symm hDC)]; exact I4.free)
    · refine never (thn (T.item (compCx X scope N' C s2 H fp) rfl rfl rfl rfl rfl i _ s3 _ H3 (fun _ _ => False) I3 (fpY fr3 onlyD) st3 go) fun r s4 ⟨u, hr, h4⟩ => ?_)
      subst hr
      refine wpAny_bind (never (thn h4 fun _ s5 ⟨x, H5, I5, r5, y5, st5, fr5⟩ => ?_))
      have I5' := I5.pinned (fpY fr5 onlyD) (T.obj _ _ st5)
      refine wpAny_bind (never (thn (hg C s2 H fp _ s5 _ H5 x u _ I5' r5 (step x H5 y5)) fun _ s6 ⟨σ6, H6, I6, sup, q6⟩ => ?_))
      refine wpAny_bind (never (thn (ht C s2 H fp _ s6 σ6 H6 _ I6 q6) fun b s7 ⟨H7, I7, q7⟩ => ?_))
      have back : ∀ {H' : Hp} {s' : Shared}, Inv (compCx X scope N' C s2 H fp) ([(D, { cls := .type "list", data := .seq its k })] ++ pinsAt fp s5.heap) σ6 H' s' →
          Inv (compCx X scope N' C s2 H fp) [(D, { cls := .type "list", data := .seq its k })] (pick pk σ) H' s' ∧ tn (i + 1) s'.heap ∧ ∀ b ∈ fp, H' b = none := fun {H' s'} I7 => by
        refine ⟨I7.unpinned.weak sup.1.symm sup.2, T.keep _ _ _ st5 fun b hb o e => (I7.pin (b, o) (List.mem_append_right _ (List.mem_append_right _ (mem_pinsAt hb e)))).1, fun b hb => ?_⟩
        obtain ⟨o, e, d⟩ := T.obj _ _ st5 b hb
        exact (I7.pin (b, o) (List.mem_append_right _ (List.mem_append_right _ (mem_pinsAt hb e)))).2.1
      cases b with
      | false =>
        rw [if_neg Bool.false_ne_true] at q7
        obtain ⟨m', hm, w7⟩ := hN _ _ q7
        obtain ⟨J7, t7, f7⟩ := back I7
        rw [if_neg Bool.false_ne_true]
        first
          | exact wpAny_pure ⟨rfl, m', hm, i + 1, H7, ys, its, k, J7, rv3, t7, f7, w7⟩
          | exact wpAny_bind (wpAny_pure (wpAny_pure ⟨rfl, m', hm, i + 1, H7, ys, its, k, J7, rv3, t7, f7, w7⟩))
      | true =>
        rw [if_pos rfl] at q7
        rw [if_pos rfl]
        refine wpAny_bind (wpAny_bind (never (thn (he C s2 H fp _ s7 σ6 H7 _ I7 q7) fun y s8 ⟨v, H8, I8, r8, n8⟩ => ?_)))
        obtain ⟨m', hm, w8⟩ := hN _ _ n8
        obtain ⟨J8, t8, f8⟩ := back I8
        obtain ⟨a1, a2⟩ := accAt J8 (by simp)
        have hsz : its.size ≤ sizeLine := by
          have e := rv3.length
          have e2 : its.toList.length = its.size := by simp
          omega
        refine wpAny_bind (append_raw a1 hsz fun h' k' e' sb => ?_)
        have J9 : Inv (compCx X scope N' C s2 H fp) [] (pick pk σ) H8 { s8 with heap := h' } :=
          Inv.turned (t' := s8.toks) (it := D) (J8.pins_of fun p hp => nomatch hp) (fun b o hb e => (sb.2 b hb).trans e) a2 hDC (.inr hDle) (fun x c e z => by
            obtain ⟨w', o, ho, hd⟩ := J8.cell x c e
            rw [z, a1] at ho; cases ho; cases hd) fun p hp => nomatch (show p ∈ ([] : List (Addr × Obj)) ++ [] from hp)
        have J10 : Inv (compCx X scope N' C s2 H fp) [(D, { cls := .type "list", data := .seq (its.push y) k' })] (pick pk σ) H8 { s8 with heap := h' } :=
          J9.pins_of fun p hp => by
            have e : p = (D, ({ cls := .type "list", data := .seq (its.push y) k' } : Obj)) := by simpa using hp
            subst e
            refine ⟨e', a2, hDC, fun z => ?_, fun v z => nomatch z⟩
            obtain ⟨_, o, ho, _⟩ := I.stack.mem z
            exact absurd (Nat.lt_of_lt_of_le (Heap.lt_size ho) hDle) (Nat.lt_irrefl _)
        have t9 : tn (i + 1) h' := T.keep _ _ _ t8 fun b hb o e => (sb.2 b (fun z => Nat.lt_irrefl D (by have := hfs b hb; rw [z] at this; exact this))).trans e
        have rv9 : Vals (ys ++ [v]) (its.push y).toList := by
          rw [Array.toList_push]
          exact Vals.append rv3 (.cons r8 .nil)
        first
          | exact wpAny_pure (wpAny_pure ⟨rfl, m', hm, i + 1, H8, ys ++ [v], its.push y, k', J10, rv9, t9, f8, w8⟩)
          | exact wpAny_bind (wpAny_pure (wpAny_pure ⟨rfl, m', hm, i + 1, H8, ys ++ [v], its.push y, k', J10, rv9, t9, f8, w8⟩))
  exact codeAny_compStart_list (loop _ rfl) (T.self _ 0 _ _ _ st1 (loop _ rfl))

section
variable {X : Cx} {scope : Scope} {N' : List Str} {pk : List (Option Nat)} {tg elt iter : Expr} {ifs : List Expr} {pos : Pos} {wi : TI} {g : TG} {tt : TT} {te : TE}
/-- [elt for tg in iter if ..] -/
theorem pe_compA (S : CompScope X scope N' pk) (hi : PIA X tg iter wi) (hg : ∀ C s H ex, PG (compCx X scope N' C s H ex) tg g) (ht : ∀ C s H ex, PTs (compCx X scope N' C s H ex) ifs tt)
    (he : ∀ C s H ex, PE (compCx X scope N' C s H ex) elt te) (hs : ∀ x, foldedSetIterable iter X.env x = pure x := by intro _; rfl) : PE X (.ListComp elt [⟨tg, iter, ifs, 0⟩] scope pos) (tComp pk wi g tt te) := by
  intro pins s σ H Q I h
  rw [eval_ListComp]
  refine wpAny_comprehension_free (use := none) rfl hs (closureFor_of fun n hn => I.ok.has n (S.free n hn)) S.kind S.loc ?_
  refine thn (hi pins s σ H _ I h) fun v s1 h1 => thn h1 fun itv s2 h2 => ?_
  obtain ⟨it, fp, tn, J, H2, e, I2, T, st2, f2, hW⟩ := h2
  subst e
  refine comp_block (R := fun acc C => compPost (model X.prog X.w) X.A X.xe none (EP X pins σ Q) acc C) S hg ht he I2 T st2 f2 hW ?_
  intro C D s' ys H' hn q hv _ _
  obtain ⟨m, hm⟩ := hn
  exact ⟨m, hm, fun h' sb => ⟨.ref D, _, hv h' sb, rfl, q⟩⟩
theorem pe_comp (hc : X.calm = true) (S : CompScope X scope N' pk) (hi : PI X tg iter wi) (hg : ∀ C s H ex, PG (compCx X scope N' C s H ex) tg g) (ht : ∀ C s H ex, PTs (compCx X scope N' C s H ex) ifs tt)
    (he : ∀ C s H ex, PE (compCx X scope N' C s H ex) elt te) (hs : ∀ x, foldedSetIterable iter X.env x = pure x := by intro _; rfl) : PE X (.ListComp elt [⟨tg, iter, ifs, 0⟩] scope pos) (tComp pk wi g tt te) := pe_compA S (hi.toA hc) hg ht he hs
/-- name = [elt for ..], name a plain local one -/
theorem ps_setC {i : Nat} {x : Str} {px spos : Pos} (hc : X.calm = true) (hN : X.N.Nodup) (hx : X.N[i]? = some x) (hl : Loc X.env.scope x) (S : CompScope X scope N' pk) (hi : PI X tg iter wi) (hg : ∀ C s H ex, PG (compCx X scope N' C s H ex) tg g)
    (ht : ∀ C s H ex, PTs (compCx X scope N' C s H ex) ifs tt) (he : ∀ C s H ex, PE (compCx X scope N' C s H ex) elt te) (hs : ∀ x, foldedSetIterable iter X.env x = pure x := by intro _; rfl)
    (hsw : swapsWith (.ListComp elt [⟨tg, iter, ifs, 0⟩] scope pos) (some (.Name x px)) spos.line X.env = pure true := by rfl) (hf : X.fn x = true ∨ X.env.scope.names.lookup x = some .local := by first | exact .inl rfl | exact .inr rfl | assumption) :
    PS X (.Assign [.Name x px] (.ListComp elt [⟨tg, iter, ifs, 0⟩] scope pos) spos) (tAsg (tComp pk wi g tt te) (gName i)) := by
  intro pins s σ H D0 I h
  rw [exec_Assign_Name_used _ _ _ _ hsw]
  refine wpAny_bind (wpAny_standAt (wpAny_bind ?_))
  show wpAny _ _ (comprehension (.ListComp elt [⟨tg, iter, ifs, 0⟩] scope pos) scope X.env (firstIterPos [⟨tg, iter, ifs, 0⟩] pos) (newList []) false (eval iter X.env) (some (assign (.Name x px) X.env)) >>= fun _ => pure ()) _ _ s
  refine wpAny_bind (wpAny_comprehension_free (use := some (assign (.Name x px) X.env)) rfl hs (closureFor_of fun n hn => I.ok.has n (S.free n hn)) S.kind S.loc ?_)
  refine thn ((hi.toA hc) pins s σ H _ I h) fun v s1 h1 => thn h1 fun itv s2 h2 => ?_
  obtain ⟨it, fp, tn, J, H2, e, I2, T, st2, f2, hW⟩ := h2
  subst e
  refine comp_block (Q := fun x H1 => gName i x σ H1 D0.nx) (R := fun acc C => compPost (model X.prog X.w) X.A X.xe (some (assign (.Name x px) X.env)) _ acc C) S hg ht he I2 T st2 f2 hW ?_
  intro C D s' ys H' hn q hv hCle hCn
  obtain ⟨m, hm⟩ := hn
  have I' : Inv X pins σ (upd H' D (.lst ys)) s' := hv s'.heap (Heap.SameBut.refl ..)
  refine wpAny_assign_Name (store_ok2 (v := .ref D) I' hN hx hl rfl (fun s'' I'' ch => ?_) hf)
  obtain ⟨a, sb, ha⟩ := ch
  have haC : C ≠ a := by
    rcases ha with ha | ha
    · rw [ha]; exact Nat.ne_of_gt (Nat.lt_of_lt_of_le I2.lt hCle)
    · obtain ⟨v, z⟩ := I2.cell x a ha
      exact Nat.ne_of_gt (Nat.lt_of_lt_of_le z.lt hCle)
  refine ⟨m, hm.sameBut sb haC, fun h' sb' => wpAny_pure (wpAny_pure ⟨_, _, ?_, q⟩)⟩
  refine Inv.turned (t' := s''.toks) (it := C) I'' (fun b o hb e => (sb'.2 b hb).trans e) hCn (Nat.ne_of_gt (Nat.lt_of_lt_of_le I2.lt hCle)) (.inr (Nat.le_trans I2.sz hCle)) (fun y c e z => ?_) fun p hp z => ?_
  · obtain ⟨v, q⟩ := I2.cell y c e
    exact absurd (Nat.lt_of_lt_of_le q.lt hCle) (by rw [z]; exact Nat.lt_irrefl _)
  · exact absurd (Nat.lt_of_lt_of_le (Heap.lt_size (I2.pin p hp).1) hCle) (by rw [z]; exact Nat.lt_irrefl _)
end

/-! ### the forms one uses -/
theorem sup_set {pk : List (Option Nat)} {σ : St} {x : V} : Sup (pick (none :: pk) σ) ((pick (none :: pk) σ).set 0 (some x)) := by
  refine ⟨by simp, fun i v h => ?_⟩
  cases i with
  | zero => exact nomatch (show (none : Option V) = some v from Option.some.inj h)
  | succ i => simpa [pick] using h
end L2

set_option Elab.async false
set_option linter.all false
set_option maxRecDepth 100000
set_option maxHeartbeats 1000000
namespace L2
open PySem PySem.Spec PyProof.Rows
section
variable {X : Cx}

/-! ### isinstance -/
def cV : V → Option Value
  | .ty n => some (.type n)
  | .ref C => some (.ref C)
  | _ => none
theorem cV_is {c : V} {t u : Value} (h : cV c = some t) (r : RelV c u) : u = t := by
  cases c with
  | ty n => cases h; exact r
  | ref C => cases h; exact r
  | _ => cases h
theorem call_isi : CallR X (.builtin "isinstance") (fun xs H Q => ∃ x c cv t b, xs = [x, c] ∧ cV c = some cv ∧ TyOf X.K H x t ∧ PySem.W.kitOne X.K t cv = some b ∧ Q (.bl b) H) := by
  intro pins s σ H xs us Q I r h
  obtain ⟨x, c, cv, t, b, rfl, hc, ty, e, q⟩ := h
  obtain ⟨u, w', rfl, r1, r2⟩ := vals2 r
  cases cV_is hc r2
  exact isinst_ok I r1 ty e fun tk => ⟨.bl b, H, I.tok _, rfl, q⟩

/-! ### all, any of a list of bools -/
theorem bools_of {bs : List Bool} : ∀ {us : List Value}, Vals (List.map V.bl bs) us → LSm.BoolsAre us bs := by
  induction bs with
  | nil => intro us r; rw [List.map_nil] at r; cases r; exact .nil
  | cons b bs ih =>
    intro us r
    rw [List.map_cons] at r
    cases r with
    | cons r1 r2 => cases r1; exact .cons b (ih r2)
theorem call_allB (hc : X.calm = true) : CallR X (.builtin "all") (fun xs H Q => ∃ (a : Addr) (bs : List Bool), xs = [.ref a] ∧ SqL X.K H a (List.map V.bl bs) ∧ Q (.bl (bs.all id)) H) := by
  intro pins s σ H xs us Q I r h
  obtain ⟨a, bs, rfl, hq, q⟩ := h
  obtain ⟨u, rfl, rx⟩ := vals1 r
  cases rx
  obtain ⟨its, rv, pl, hz⟩ := I.list hq
  have hl : s.heap.IsList a its.toArray := pl.isList
  have hb := bools_of rv
  have hlt : a < s.heap.objs.size := by obtain ⟨_, e, _⟩ := hl; exact Heap.lt_size e
  refine call_all_walk (wpAny_pyIter_list hl ?_)
  refine ⟨s.heap.objs.size, [s.heap.objs.size, a], [s.heap.objs.size], its.toArray.size, _, _, fun i => (bs[i]?).getD true, rfl, Walks.list (A := X.A.in1) (I.ok.hd hc) _ a (Nat.ne_of_lt hlt) its.toArray,
    ⟨⟨_, Heap.get?_push_size _ rfl, rfl, rfl⟩, hl.push _⟩, fun i v s' Q' E' hP hQ => ?_, fun h' tk hk => ?_⟩
  · obtain ⟨b, e, rfl⟩ := hb.get i v (by simpa using hP)
    simp only [e, Option.getD_some] at hQ
    exact wpAny_truthy_bool hQ
  · have e : ((List.range its.toArray.size).all fun i => (bs[i]?).getD true) = bs.all id := by
      rw [List.size_toArray, hb.length]; exact LSm.range_all bs
    rw [e]
    exact ⟨.bl _, H, I.kept (LSm.kept_iter hk), rfl, q⟩

/-! ### a text walked sign by sign -/
def Its (x : Str) : It := ⟨fun i _ => i < x.cps.size, fun i H v H' => H' = H ∧ ∃ c, x.cps[i]? = some c ∧ v = .str ⟨#[c]⟩, fun i _ => x.cps.size ≤ i⟩
theorem turn_strA {P : Program} {w : World} {K : PySem.W.Frag} {tg : Expr} {it : Addr} {x : Str} {t : Tok} {T : String} (hT : T = "str_ascii_iterator" ∨ T = "str_iterator") :
    Turn P w K tg (Its x) [it] it (fun i h => i ≤ x.cps.size ∧ h.IsStrIter it T x t i) where
  mem := by simp
  obj := fun i h st b hb => by
    have e : b = it := by simpa using hb
    subst e
    obtain ⟨o, ho, hc, hd⟩ := st.2
    exact ⟨o, ho, fun v z => by rw [hd] at z; cases z⟩
  keep := fun i h h' st k => ⟨st.1, let ⟨o, ho, r⟩ := st.2; ⟨o, k it (by simp) o ho, r⟩⟩
  item := by
    intro X hP hw hK hc i pins s σ H E I hf st hg
    subst hP hw hK
    obtain ⟨f0, f1, f2, f3, f4, f5⟩ := hf it (by simp)
    have W : Walks X.prog X.w X.A it [it] [it] x.cps.size (SignAt x) (fun i h => h.IsStrIter it T x t i) := by
      rcases hT with rfl | rfl
      · exact Walks.strAscii (I.ok.hd hc) it x t
      · exact Walks.strWide (I.ok.hd hc) it x t
    refine W.item i s _ _ hg st.2 fun v h' tk hv st' kk => ?_
    obtain ⟨c, u, hx, rfl⟩ := hv
    have I1 : Inv X pins σ H { s with heap := h', toks := tk } := I.turned (fun b o hb e => kk b o (by simpa using hb) e) f0 f1 f3 f4 f5
    obtain ⟨o, ho, hcl, hd⟩ := id st'
    exact ⟨_, rfl, go_of (s := { s with heap := h', toks := tk }) ho hcl hd (by rcases hT with rfl | rfl <;> decide) ⟨.str ⟨#[c]⟩, H, I1, ⟨_, rfl⟩, ⟨rfl, c, hx, rfl⟩, ⟨hg, st'⟩, fun b hb => (hf b hb).1⟩⟩
  done := by
    intro X hP hw hK hc i pins s σ H E I hf st hg
    subst hP hw hK
    obtain ⟨f0, f1, f2, f3, f4, f5⟩ := hf it (by simp)
    have W : Walks X.prog X.w X.A it [it] [it] x.cps.size (SignAt x) (fun i h => h.IsStrIter it T x t i) := by
      rcases hT with rfl | rfl
      · exact Walks.strAscii (I.ok.hd hc) it x t
      · exact Walks.strWide (I.ok.hd hc) it x t
    have e : i = x.cps.size := Nat.le_antisymm st.1 hg
    subst e
    exact W.done s _ _ st.2 fun h' tk kk => ⟨rfl, I.turned (fun b o hb e => kk b o (by simpa using hb) e) f0 f1 f3 f4 f5⟩
  self := fun A i s Q E st h => by
    rcases hT with rfl | rfl
    · exact wpAny_pyIter_striter_ascii st.2 h
    · exact wpAny_pyIter_striter_wide st.2 h
def iStr (te : TE) : TI := fun σ H R => te σ H fun x H1 => ∃ z, x = .str z ∧ R (Its z) H1
theorem for_str {x : Str} {g : TG} {tb : TS} {D : Ends} {σ : St} {H : Hp} (Pv : Nat → St → Hp → Prop) (h0 : Pv 0 σ H)
    (hs : ∀ (i : Nat) (c : Nat) σ H, x.cps[i]? = some c → Pv i σ H → g (.str ⟨#[c]⟩) σ H fun σ2 H2 => tb { D with nx := Pv (i + 1), ct := Pv (i + 1), bk := D.nx } σ2 H2) (hd : ∀ σ H, Pv x.cps.size σ H → D.nx σ H) :
    ∃ W : Nat → Nat → St → Hp → Prop, (∃ m, W 0 m σ H) ∧ ∀ i m σ H, W i m σ H →
      ((Its x).stop i H ∧ D.nx σ H) ∨ ((Its x).go i H ∧ ∃ N : St → Hp → Prop, (∀ σ' H', N σ' H' → ∃ m', m' < m ∧ W (i + 1) m' σ' H') ∧ ∀ x' H', (Its x).yld i H x' H' → g x' σ H' fun σ2 H2 => tb { D with nx := N, ct := N, bk := D.nx } σ2 H2) := by
  refine ⟨fun i m σ H => m = x.cps.size - i ∧ i ≤ x.cps.size ∧ Pv i σ H, ⟨x.cps.size, by simp, Nat.zero_le _, h0⟩, ?_⟩
  rintro i m σ H ⟨rfl, hi, p⟩
  by_cases hlt : i < x.cps.size
  · refine .inr ⟨hlt, Pv (i + 1), fun σ' H' p' => ⟨x.cps.size - (i + 1), by omega, rfl, hlt, p'⟩, fun v H' y => ?_⟩
    obtain ⟨e, c, hc, hv⟩ := y
    subst e hv
    exact hs i c σ _ hc p
  · have e : i = x.cps.size := by omega
    subst e
    exact .inl ⟨Nat.le_refl _, hd σ H p⟩

/-! ### texts -/
theorem strs_of {ts : List Str} : ∀ {us : List Value}, Vals (ts.map V.str) us → ∃ l : List (Str × Tok), us = strValues l ∧ l.map (·.1) = ts := by
  induction ts with
  | nil => intro us r; rw [List.map_nil] at r; cases r; exact ⟨[], rfl, rfl⟩
  | cons b bs ih =>
    intro us r
    rw [List.map_cons] at r
    cases r with
    | cons r1 r2 =>
      obtain ⟨t, rfl⟩ := r1
      obtain ⟨l, rfl, e⟩ := ih r2
      exact ⟨(b, t) :: l, rfl, by rw [List.map_cons, e]⟩
/-- sep.join(list of texts) -/
theorem mt_joinL : MtR X "str.join" (fun x xs H Q => ∃ z a ts, x = .str z ∧ xs = [.ref a] ∧ SqL X.K H a (ts.map V.str) ∧ (ts.toArray.foldl (· + ·.length + z.length) 0) ≤ sizeLine ∧ (Builtin.Str.glued z ts).length ≤ sizeLine ∧ Q (.str (Builtin.Str.glued z ts)) H) := by
  intro pins s σ H x xs v us Q I rx rs h
  obtain ⟨z, a, ts, rfl, rfl, hq, hz, hz2, q⟩ := h
  obtain ⟨t, rfl⟩ := rx
  obtain ⟨u, rfl, rr⟩ := vals1 rs
  cases rr
  obtain ⟨its, rv, pl, _⟩ := I.list hq
  obtain ⟨l, rfl, hl⟩ := strs_of rv
  refine call_meets F.slot_str_join (typeIs_str s z t) F.entry_str_join (F.args_str_join_2 _ _) (meets_str_join_list z t a l ?_) ⟨pl.isList, ?_⟩
  · rw [hl]; exact notLongL hz
  · subst hl
    cases l with
    | nil => exact ⟨hz2, .str _, H, I.tok _, ⟨_, rfl⟩, q⟩
    | cons p r =>
      cases r with
      | nil => exact ⟨.str _, H, I, ⟨p.2, rfl⟩, q⟩
      | cons p2 r => exact ⟨hz2, .str _, H, I.tok _, ⟨_, rfl⟩, q⟩
theorem call_intS : CallR X (.type "int") (fun xs H Q => ∃ x n, xs = [.str x] ∧ PySem.intText? x = some n ∧ x.length ≤ 640 ∧ Q (.int n) H) := by
  intro pins s σ H xs us Q I r h
  obtain ⟨x, n, rfl, hn, hl, q⟩ := h
  obtain ⟨u, rfl, t, rfl⟩ := vals1 r
  exact PySem.W.KIN.call_text hn hl ⟨.int n, H, I.tok _, ⟨_, rfl⟩, q⟩
/-- text * number, at least twice a text that isn't empty -/
theorem op_mul_str : OpR X (binaryOp .Mult) (fun x y H Q => ∃ z n, x = .str z ∧ y = .int n ∧ 1 < n ∧ n ≤ 1000 ∧ 0 < z.length ∧ z.length ≤ 1000 ∧ Q (.str ⟨(List.replicate n.toNat z.cps).foldl (· ++ ·) #[]⟩) H) := by
  intro pins s σ H x y v u Q I rx ry h
  obtain ⟨z, n, rfl, rfl, h1, h2, h3, h4, q⟩ := h
  obtain ⟨t, rfl⟩ := rx
  obtain ⟨t', rfl⟩ := ry
  have hm : (z.length : Int) * n ≤ 1000 * 1000 := Int.mul_le_mul (by omega) h2 (by omega) (by decide)
  have ht : z.length * n.toNat ≤ 1000000 := by
    have e : ((z.length * n.toNat : Nat) : Int) = (z.length : Int) * n := by rw [Int.natCast_mul, Int.toNat_of_nonneg (by omega)]
    omega
  have hs : sizeLine = 16777216 := sizeLine_eq
  have hb1 : (n == 1) = false := beq_eq_false_iff_ne.mpr (by omega)
  have hb2 : (z.length == 0) = false := beq_eq_false_iff_ne.mpr (by omega)
  refine PySem.P.mul_str ?_ (fun _ _ => ?_) (fun _ _ => notLongL (by omega)) ?_
  · rw [decide_eq_false (by omega), decide_eq_false (by omega)]; rfl
  · have := Int.le_ediv_of_mul_le (a := (z.length : Int)) (b := 2 ^ 63 - 1) (c := n) (by omega) (by omega)
    omega
  · rw [if_neg (by omega), hb1, hb2]
    refine ⟨?_, .str _, H, I.tok _, ⟨_, rfl⟩, q⟩
    show ((List.replicate n.toNat z.cps).foldl (· ++ ·) #[]).size ≤ sizeLine
    have go : ∀ (k : Nat) (acc : Array Nat), ((List.replicate k z.cps).foldl (· ++ ·) acc).size = acc.size + z.length * k := by
      intro k
      induction k with
      | zero => intro acc; simp
      | succ k ih =>
        intro acc
        rw [List.replicate_succ, List.foldl_cons, ih, Array.size_append, Nat.mul_succ]
        have e : z.cps.size = z.length := rfl
        omega
    rw [go]
    simp only [List.size_toArray, List.length_nil]
    omega

/-! ### ints -/
end
end L2

set_option Elab.async false
set_option linter.all false
set_option maxRecDepth 100000
set_option maxHeartbeats 1000000
namespace L2
open PySem PySem.Spec PyProof.Rows

/-! ### a def of the text that may be called -/
structure Cal (P : Program) (w : World) (K : PySem.W.Frag) (mg : Str → Option Value) (base : Heap) (n : Nat) (x : Str) (ps : List Str) (sp : Sp) : Prop where
  ex : ∃ f fd, FnOk P w K mg base CX0 n f fd ps sp ∧ Binds K fd ps [] ∧ PySem.W.keepIn K (.ref f) = true ∧ mg x = some (.ref f)
section
variable {X : Cx} {x : Str} {p pos : Pos} {e : Expr} {es : List Expr} {t : TA} {ps : List Str} {sp : Sp} {n m : Nat}
theorem pe_fn (c : Cal X.prog X.w X.K X.mg X.base n x ps sp) (hr : Room m X.A) (hn : n ≤ m) (hg : Gl X x) (ha : PA X (e :: es) t) (hdb : (x == ("__debug__" : Str)) = false := by decide)
    (he : starEach (e :: es) X.env = (false, eval e X.env) :: starEach es X.env := by rfl) (hpl : (backTo pos (starEach es X.env)).any (·.1) = false := by rfl) :
    PE X (.Call (.Name x p) (e :: es) [] pos) (tCall sp [] E0 t) := by
  obtain ⟨f, fd, F, b, k, hm⟩ := c.ex
  exact pe_call (F.mono hn) hr hg hm k b .nil pass0 ha hdb he hpl
end

/-! ### what a comprehension's scope must have, as a test -/
def compStatic (sc : Scope) (N : List Str) (scope : Scope) (N' : List Str) (pk : List (Option Nat)) : Bool :=
  (scope.kind == .function) && scope.names.all (fun y => y.2 != .cell) && scope.names.all (fun y => !(y.2 == .local) || scope.names.lookup y.1 == some .local) &&
  scope.names.all (fun y => !(y.2 == .free) || ((sc.names.lookup y.1 == some .cell || sc.names.lookup y.1 == some .free) && scope.names.lookup y.1 != some .local)) &&
  (pk.length == N'.length) && (List.range pk.length).all fun j => match pk[j]?, N'[j]? with
    | some (some i), some x => N[i]? == some x && scope.names.contains (x, NameKind.free)
    | _, _ => true
theorem comp_scope {X : Cx} {scope : Scope} {N' : List Str} {pk : List (Option Nat)} (h : compStatic X.env.scope X.N scope N' pk = true) : CompScope X scope N' pk := by
  unfold compStatic at h
  simp only [Bool.and_eq_true] at h
  obtain ⟨⟨⟨⟨⟨h1, h2⟩, h3⟩, h4⟩, h5⟩, h6⟩ := h
  refine ⟨by simpa using h1, fun y hy => ?_, fun y hy hl => ?_, fun n hn => ?_, fun n hn => ?_, by simpa using h5, fun j i x e1 e2 => ?_⟩
  · have := List.all_eq_true.mp h2 y hy
    simpa using this
  · have := List.all_eq_true.mp h3 y hy
    rw [hl] at this
    simpa using this
  · have := List.all_eq_true.mp h4 _ hn
    simp only [beq_self_eq_true, Bool.not_true, Bool.false_or, Bool.and_eq_true, Bool.or_eq_true] at this
    rcases this.1 with z | z
    · exact .inl (show X.env.scope.names.lookup n = _ by simpa using z)
    · exact .inr (show X.env.scope.names.lookup n = _ by simpa using z)
  · have := List.all_eq_true.mp h4 _ hn
    simp only [beq_self_eq_true, Bool.not_true, Bool.false_or, Bool.and_eq_true, Bool.or_eq_true] at this
    simpa using this.2
  · have hj : j < pk.length := (List.getElem?_eq_some_iff.mp e1).1
    have := List.all_eq_true.mp h6 j (List.mem_range.mpr hj)
    rw [e1, e2] at this
    simp only [Bool.and_eq_true] at this
    exact ⟨by simpa using this.1, by simpa using this.2⟩

/-! ### rules for several kinds at once -/
section
variable {X : Cx}
/-- len of a text, a list or a tuple -/
theorem call_lenU : CallR X (.builtin "len") (fun xs H Q => ∃ x, xs = [x] ∧ ((∃ z, x = .str z ∧ z.length ≤ sizeLine ∧ Q (.int z.length) H) ∨ ∃ p, x = .ref p ∧ ∃ ys, (SqL X.K H p ys ∨ SqT X.K H p ys) ∧ Q (.int ys.length) H)) := by
  intro pins s σ H xs us Q I r h
  obtain ⟨x, rfl, h⟩ := h
  rcases h with ⟨z, rfl, hz, q⟩ | ⟨p, rfl, ys, hq, q⟩
  · exact call_len_str pins s σ H _ us Q I r ⟨z, rfl, hz, q⟩
  · exact call_len_seq pins s σ H _ us Q I r ⟨p, ys, rfl, hq, q⟩
/-- an item of a list, a tuple, a text -/
def rIxU (K : PySem.W.Frag) : R2 := fun x y H Q => ∃ i, y = .int i ∧ ((∃ z, x = .str z ∧ z.length ≤ sizeLine ∧ ∃ c, atI z.cps.toList i = some c ∧ Q (.str ⟨#[c]⟩) H) ∨ ∃ p, x = .ref p ∧ ∃ xs, (SqL K H p xs ∨ SqT K H p xs) ∧ ∃ v, atI xs i = some v ∧ Q v H)
theorem ix_any : IxR X (rIxU X.K) := by
  intro value slice pins s σ H x y v u Q I rx ry h hs
  obtain ⟨i, rfl, h⟩ := h
  rcases h with ⟨z, rfl, hz, c, hc, q⟩ | ⟨p, rfl, xs, hq | hq, w', hv, q⟩
  · exact ix_str value slice pins s σ H _ _ v u Q I rx ry ⟨z, i, c, rfl, rfl, hz, hc, q⟩ hs
  · exact ix_list value slice pins s σ H _ _ v u Q I rx ry ⟨p, xs, i, w', rfl, rfl, hq, hv, q⟩ hs
  · exact ix_tup value slice pins s σ H _ _ v u Q I rx ry ⟨p, xs, i, w', rfl, rfl, hq, hv, q⟩ hs
/-- an int, taken from a list of ints by a place within it -/
theorem atI_ints {ns : List Int} {k : Int} (h0 : 0 ≤ k) (h1 : k < ns.length) : atI (ns.map V.int) k = some (.int (ns.getD k.toNat 0)) := by
  obtain ⟨j, rfl⟩ := Int.eq_ofNat_of_zero_le h0
  refine atI_nat ?_
  have hj : j < ns.length := by omega
  rw [List.getElem?_map, List.getElem?_eq_getElem hj]
  simp [List.getD, List.getElem?_eq_getElem hj]
/-- any sequence walked -/
def iSeq (K : PySem.W.Frag) (te : TE) : TI := fun σ H R => te σ H fun x H1 => (∃ z, x = .str z ∧ R (Its z) H1) ∨ (∃ a, x = .ref a ∧ (∃ xs, SqL K H1 a xs) ∧ R (Itl K a) H1) ∨ (∃ a, x = .ref a ∧ (∃ xs, SqT K H1 a xs) ∧ R (Itt K a) H1)
/-! ### loops and comprehensions with their iterator in hand -/
def cmpW (J : It) (pk : List (Option Nat)) (g : TG) (tt : TT) (te : TE) (σ : St) (H : Hp) (Q : VK) : Prop := ∃ W : Nat → Nat → List V → Hp → Prop, (∃ m, W 0 m [] H) ∧ ∀ i m ys H, W i m ys H →
  (J.stop i H ∧ ys.length ≤ sizeLine ∧ ∀ p, H p = none → Q (.ref p) (upd H p (.lst ys))) ∨
  (J.go i H ∧ ys.length < sizeLine ∧ ∃ N : List V → Hp → Prop, (∀ zs H', N zs H' → ∃ m', m' < m ∧ W (i + 1) m' zs H') ∧ ∀ x H', J.yld i H x H' → g x (pick pk σ) H' fun σ2 H2 => Sup (pick pk σ) σ2 ∧ tt σ2 H2 fun b H3 =>
    if b = true then te σ2 H3 fun v H4 => N (ys ++ [v]) H4 else N ys H3)
def forW (J : It) (g : TG) (tb : TS) (D : Ends) (σ : St) (H : Hp) : Prop := ∃ W : Nat → Nat → St → Hp → Prop, (∃ m, W 0 m σ H) ∧ ∀ i m σ H, W i m σ H →
  (J.stop i H ∧ D.nx σ H) ∨ (J.go i H ∧ ∃ N : St → Hp → Prop, (∀ σ' H', N σ' H' → ∃ m', m' < m ∧ W (i + 1) m' σ' H') ∧ ∀ x H', J.yld i H x H' → g x σ H' fun σ2 H2 => tb { D with nx := N, ct := N, bk := D.nx } σ2 H2)
section
variable {K : PySem.W.Frag} {a : Addr} {xs : List V} {g : TG} {tb : TS} {D : Ends} {σ : St} {H : Hp}
theorem forW_list (Pv : Nat → St → Hp → Prop) (h0 : Pv 0 σ H) (hl : ∀ i σ H, i ≤ xs.length → Pv i σ H → SqL K H a xs)
    (hs : ∀ i x σ H, xs[i]? = some x → Pv i σ H → g x σ H fun σ2 H2 => tb { D with nx := Pv (i + 1), ct := Pv (i + 1), bk := D.nx } σ2 H2) (hd : ∀ σ H, Pv xs.length σ H → D.nx σ H) : forW (Itl K a) g tb D σ H := for_list Pv h0 hl hs hd
theorem forW_tup (Pv : Nat → St → Hp → Prop) (h0 : Pv 0 σ H) (hl : ∀ i σ H, i ≤ xs.length → Pv i σ H → SqT K H a xs)
    (hs : ∀ i x σ H, xs[i]? = some x → Pv i σ H → g x σ H fun σ2 H2 => tb { D with nx := Pv (i + 1), ct := Pv (i + 1), bk := D.nx } σ2 H2) (hd : ∀ σ H, Pv xs.length σ H → D.nx σ H) : forW (Itt K a) g tb D σ H := for_tup Pv h0 hl hs hd
theorem forW_range {lo : Int} {n : Nat} (Pv : Nat → St → Hp → Prop) (h0 : Pv 0 σ H)
    (hs : ∀ i σ H, i < n → Pv i σ H → g (.int (lo + i)) σ H fun σ2 H2 => tb { D with nx := Pv (i + 1), ct := Pv (i + 1), bk := D.nx } σ2 H2) (hd : ∀ σ H, Pv n σ H → D.nx σ H) : forW (Itr lo n) g tb D σ H := for_range Pv h0 hs hd
theorem forW_str {x : Str} (Pv : Nat → St → Hp → Prop) (h0 : Pv 0 σ H)
    (hs : ∀ (i : Nat) (c : Nat) σ H, x.cps[i]? = some c → Pv i σ H → g (.str ⟨#[c]⟩) σ H fun σ2 H2 => tb { D with nx := Pv (i + 1), ct := Pv (i + 1), bk := D.nx } σ2 H2) (hd : ∀ σ H, Pv x.cps.size σ H → D.nx σ H) : forW (Its x) g tb D σ H := for_str Pv h0 hs hd
end
/-! ### comprehensions: the forms one uses -/
theorem comp_range {lo : Int} {n : Nat} {pk : List (Option Nat)} {g : TG} {tt : TT} {te : TE} {σ : St} {H : Hp} {Q : VK} (Pv : Nat → List V → Hp → Prop) (hn : n ≤ sizeLine) (hlen : ∀ i ys H, Pv i ys H → ys.length ≤ i) (h0 : Pv 0 [] H)
    (hs : ∀ i ys H, i < n → Pv i ys H → g (.int (lo + i)) (pick pk σ) H fun σ2 H2 => Sup (pick pk σ) σ2 ∧ tt σ2 H2 fun b H3 => if b = true then te σ2 H3 fun v H4 => Pv (i + 1) (ys ++ [v]) H4 else Pv (i + 1) ys H3)
    (hd : ∀ ys H, Pv (n) ys H → ∀ p, H p = none → Q (.ref p) (upd H p (.lst ys))) :
    cmpW (Itr lo n) pk g tt te σ H Q := by
  refine ⟨fun i m ys H => m = n - i ∧ i ≤ n ∧ Pv i ys H, ⟨n, by simp, Nat.zero_le _, h0⟩, ?_⟩
  rintro i m ys H ⟨rfl, hi, p⟩
  have hl := hlen _ _ _ p
  by_cases hlt : i < n
  · refine .inr ⟨hlt, by omega, Pv (i + 1), fun zs H' p' => ⟨n - (i + 1), by omega, rfl, hlt, p'⟩, fun x H' y => ?_⟩
    obtain ⟨e, y⟩ := y
    subst e y
    exact hs i ys _ hlt p
  · have e : i = n := by omega
    subst e
    exact .inl ⟨Nat.le_refl _, by omega, hd ys H p⟩
theorem comp_list {K : PySem.W.Frag} {a : Addr} {xs : List V} {pk : List (Option Nat)} {g : TG} {tt : TT} {te : TE} {σ : St} {H : Hp} {Q : VK} (Pv : Nat → List V → Hp → Prop) (hn : xs.length ≤ sizeLine) (hlen : ∀ i ys H, Pv i ys H → ys.length ≤ i) (h0 : Pv 0 [] H) (hx : ∀ i ys H, i ≤ xs.length → Pv i ys H → SqL K H a xs)
    (hs : ∀ i x ys H, xs[i]? = some x → Pv i ys H → g x (pick pk σ) H fun σ2 H2 => Sup (pick pk σ) σ2 ∧ tt σ2 H2 fun b H3 => if b = true then te σ2 H3 fun v H4 => Pv (i + 1) (ys ++ [v]) H4 else Pv (i + 1) ys H3)
    (hd : ∀ ys H, Pv (xs.length) ys H → ∀ p, H p = none → Q (.ref p) (upd H p (.lst ys))) :
    cmpW (Itl K a) pk g tt te σ H Q := by
  refine ⟨fun i m ys H => m = xs.length - i ∧ i ≤ xs.length ∧ Pv i ys H, ⟨xs.length, by simp, Nat.zero_le _, h0⟩, ?_⟩
  rintro i m ys H ⟨rfl, hi, p⟩
  have hl := hlen _ _ _ p
  by_cases hlt : i < xs.length
  · refine .inr ⟨⟨xs, xs[i], hx i ys H hi p, by simp [hlt]⟩, by omega, Pv (i + 1), fun zs H' p' => ⟨xs.length - (i + 1), by omega, rfl, hlt, p'⟩, fun x H' y => ?_⟩
    obtain ⟨e, y⟩ := y
    subst e
    exact hs i x ys _ (y xs (hx i ys _ hi p)) p
  · have e : i = xs.length := by omega
    subst e
    exact .inl ⟨⟨xs, hx _ ys H (Nat.le_refl _) p, Nat.le_refl _⟩, by omega, hd ys H p⟩
theorem comp_tup {K : PySem.W.Frag} {a : Addr} {xs : List V} {pk : List (Option Nat)} {g : TG} {tt : TT} {te : TE} {σ : St} {H : Hp} {Q : VK} (Pv : Nat → List V → Hp → Prop) (hn : xs.length ≤ sizeLine) (hlen : ∀ i ys H, Pv i ys H → ys.length ≤ i) (h0 : Pv 0 [] H) (hx : ∀ i ys H, i ≤ xs.length → Pv i ys H → SqT K H a xs)
    (hs : ∀ i x ys H, xs[i]? = some x → Pv i ys H → g x (pick pk σ) H fun σ2 H2 => Sup (pick pk σ) σ2 ∧ tt σ2 H2 fun b H3 => if b = true then te σ2 H3 fun v H4 => Pv (i + 1) (ys ++ [v]) H4 else Pv (i + 1) ys H3)
    (hd : ∀ ys H, Pv (xs.length) ys H → ∀ p, H p = none → Q (.ref p) (upd H p (.lst ys))) :
    cmpW (Itt K a) pk g tt te σ H Q := by
  refine ⟨fun i m ys H => m = xs.length - i ∧ i ≤ xs.length ∧ Pv i ys H, ⟨xs.length, by simp, Nat.zero_le _, h0⟩, ?_⟩
  rintro i m ys H ⟨rfl, hi, p⟩
  have hl := hlen _ _ _ p
  by_cases hlt : i < xs.length
  · refine .inr ⟨⟨xs, xs[i], hx i ys H hi p, by simp [hlt]⟩, by omega, Pv (i + 1), fun zs H' p' => ⟨xs.length - (i + 1), by omega, rfl, hlt, p'⟩, fun x H' y => ?_⟩
    obtain ⟨e, y⟩ := y
    subst e
    exact hs i x ys _ (y xs (hx i ys _ hi p)) p
  · have e : i = xs.length := by omega
    subst e
    exact .inl ⟨⟨xs, hx _ ys H (Nat.le_refl _) p, Nat.le_refl _⟩, by omega, hd ys H p⟩
theorem comp_str {z : Str} {pk : List (Option Nat)} {g : TG} {tt : TT} {te : TE} {σ : St} {H : Hp} {Q : VK} (Pv : Nat → List V → Hp → Prop) (hn : z.cps.size ≤ sizeLine) (hlen : ∀ i ys H, Pv i ys H → ys.length ≤ i) (h0 : Pv 0 [] H)
    (hs : ∀ i c ys H, z.cps[i]? = some c → Pv i ys H → g (.str ⟨#[c]⟩) (pick pk σ) H fun σ2 H2 => Sup (pick pk σ) σ2 ∧ tt σ2 H2 fun b H3 => if b = true then te σ2 H3 fun v H4 => Pv (i + 1) (ys ++ [v]) H4 else Pv (i + 1) ys H3)
    (hd : ∀ ys H, Pv (z.cps.size) ys H → ∀ p, H p = none → Q (.ref p) (upd H p (.lst ys))) :
    cmpW (Its z) pk g tt te σ H Q := by
  refine ⟨fun i m ys H => m = z.cps.size - i ∧ i ≤ z.cps.size ∧ Pv i ys H, ⟨z.cps.size, by simp, Nat.zero_le _, h0⟩, ?_⟩
  rintro i m ys H ⟨rfl, hi, p⟩
  have hl := hlen _ _ _ p
  by_cases hlt : i < z.cps.size
  · refine .inr ⟨hlt, by omega, Pv (i + 1), fun zs H' p' => ⟨z.cps.size - (i + 1), by omega, rfl, hlt, p'⟩, fun x H' y => ?_⟩
    obtain ⟨e, c, hc, hv⟩ := y
    subst e hv
    exact hs i c ys _ hc p
  · have e : i = z.cps.size := by omega
    subst e
    exact .inl ⟨Nat.le_refl _, by omega, hd ys H p⟩
end

/-! ### the same with the text's part named (a comprehension's block has the part of the def around it) -/
section
variable {X : Cx} {K : PySem.W.Frag}
theorem op_in_seqK (hK : X.K = K) : OpR X (compareOp .In) (rIn K false) := hK ▸ op_in_seq
theorem op_notIn_seqK (hK : X.K = K) : OpR X (compareOp .NotIn) (rIn K true) := hK ▸ op_notIn_seq
theorem ix_anyK (hK : X.K = K) : IxR X (rIxU K) := hK ▸ ix_any
def rLenU (K : PySem.W.Frag) : List V → Hp → VK → Prop := fun xs H Q => ∃ x, xs = [x] ∧ ((∃ z, x = .str z ∧ z.length ≤ sizeLine ∧ Q (.int z.length) H) ∨ ∃ p, x = .ref p ∧ ∃ ys, (SqL K H p ys ∨ SqT K H p ys) ∧ Q (.int ys.length) H)
theorem call_lenK (hK : X.K = K) : CallR X (.builtin "len") (rLenU K) := hK ▸ call_lenU
def rIsi (K : PySem.W.Frag) : List V → Hp → VK → Prop := fun xs H Q => ∃ x c cv t b, xs = [x, c] ∧ cV c = some cv ∧ TyOf K H x t ∧ PySem.W.kitOne K t cv = some b ∧ Q (.bl b) H
theorem call_isiK (hK : X.K = K) : CallR X (.builtin "isinstance") (rIsi K) := hK ▸ call_isi
def rAllB (K : PySem.W.Frag) : List V → Hp → VK → Prop := fun xs H Q => ∃ (a : Addr) (bs : List Bool), xs = [.ref a] ∧ SqL K H a (List.map V.bl bs) ∧ Q (.bl (bs.all id)) H
theorem call_allK (hK : X.K = K) (hc : X.calm = true) : CallR X (.builtin "all") (rAllB K) := hK ▸ call_allB hc
def rListOf (K : PySem.W.Frag) : List V → Hp → VK → Prop := fun xs H Q => ∃ p ys, xs = [.ref p] ∧ (SqL K H p ys ∨ SqT K H p ys) ∧ ∀ l, H l = none → Q (.ref l) (upd H l (.lst ys))
theorem call_listK (hK : X.K = K) : CallR X (.type "list") (rListOf K) := hK ▸ call_list_of
def rTupleOf (K : PySem.W.Frag) : List V → Hp → VK → Prop := fun xs H Q => ∃ p ys, xs = [.ref p] ∧ ((SqL K H p ys ∧ ∀ l, H l = none → Q (.ref l) (upd H l (.tup ys))) ∨ (SqT K H p ys ∧ Q (.ref p) H))
theorem call_tupleK (hK : X.K = K) : CallR X (.type "tuple") (rTupleOf K) := hK ▸ call_tuple_of
def rJoinL (K : PySem.W.Frag) : V → List V → Hp → VK → Prop := fun x xs H Q => ∃ z a ts, x = .str z ∧ xs = [.ref a] ∧ SqL K H a (ts.map V.str) ∧ (ts.toArray.foldl (· + ·.length + z.length) 0) ≤ sizeLine ∧ (Builtin.Str.glued z ts).length ≤ sizeLine ∧ Q (.str (Builtin.Str.glued z ts)) H
theorem mt_joinK (hK : X.K = K) : MtR X "str.join" (rJoinL K) := hK ▸ mt_joinL
def tTru (K : PySem.W.Frag) (ta : TE) : TT := fun σ H Q => ta σ H fun x H' => ∃ k, TruV K x H' k ∧ Q k H'
end
theorem Sup.refl (σ : St) : Sup σ σ := ⟨rfl, fun _ _ h => h⟩
theorem Sup.cons {σ σ' : St} {o o' : Option V} (h : o = none ∨ o = o') (s : Sup σ σ') : Sup (o :: σ) (o' :: σ') := by
  refine ⟨by simp [s.1], fun i v e => ?_⟩
  cases i with
  | zero =>
    rcases h with rfl | rfl
    · exact nomatch (show (none : Option V) = some v from Option.some.inj e)
    · exact e
  | succ i => exact s.2 i v (by simpa using e)
theorem sup1 {σ : St} {x : V} : Sup (none :: σ) (some x :: σ) := .cons (.inl rfl) (.refl _)
/-! ### the same rules with cheap side conditions -/
def notStar : Expr → Bool
  | .Starred _ _ => false
  | _ => true
theorem starEach_c {e : Expr} {es : List Expr} {env : Env} (h : notStar e = true) : starEach (e :: es) env = (false, eval e env) :: starEach es env := by
  cases e <;> first | rfl | cases h
def plainAll : List Expr → Bool
  | [] => true
  | e :: es => notStar e && plainAll es
theorem plain_any {pos : Pos} {env : Env} : ∀ {es : List Expr}, plainAll es = true → (backTo pos (starEach es env)).any (·.1) = false
  | [], _ => rfl
  | e :: es, h => by
    have h' : (notStar e && plainAll es) = true := h
    rw [Bool.and_eq_true] at h'
    rw [starEach_c h'.1]
    show (false || (backTo pos (starEach es env)).any (·.1)) = false
    rw [plain_any h'.2]; rfl
theorem plain_all {pos : Pos} {env : Env} : ∀ {es : List Expr}, plainAll es = true → (backTo pos (starEach es env)).all (fun x => !x.1) = true
  | [], _ => rfl
  | e :: es, h => by
    have h' : (notStar e && plainAll es) = true := h
    rw [Bool.and_eq_true] at h'
    rw [starEach_c h'.1]
    show (true && (backTo pos (starEach es env)).all (fun x => !x.1)) = true
    rw [plain_all h'.2]; rfl
def notCall0 : Expr → Bool
  | .Call _ [] [] _ => false
  | _ => true
theorem base_c {o : Expr} {name : Str} {env : Env} {wh : Sem Value} (h : notCall0 o = true) : attributeBase o name env wh = wh := by
  unfold attributeBase
  split
  · cases h
  · rfl
def plainTest : Expr → Bool
  | .UnaryOp _ _ _ => false
  | .BoolOp _ _ _ => false
  | .IfExp _ _ _ _ => false
  | .Compare _ _ _ _ => false
  | _ => true
theorem isTrue_c {e : Expr} {env : Env} {wh : Sem Value} (h : plainTest e = true) : isTrue e env wh = (do let v ← wh; standAt e.pos; holding [v] (truthy v)) := by
  cases e <;> first | rfl | cases h
section
variable {X : Cx} {K : PySem.W.Frag} {x : Str} {p pos apos cpos : Pos} {e o a : Expr} {es : List Expr} {t : TA} {te to ta : TE} {ps : List Str} {sp : Sp} {n m : Nat} {id T : String} {r : List V → Hp → VK → Prop} {name : Str} {rm : V → List V → Hp → VK → Prop}
theorem pa_c (ha : PE X e te) (hr : PA X es t) (hs : notStar e = true := by rfl) : PA X (e :: es) (tCons te t) := pa_cons ha hr (starEach_c hs)
theorem pe_fnP (c : Cal X.prog X.w X.K X.mg X.base n x ps sp) (hr : Room m X.A) (hn : n ≤ m) (hg : Gl X x) (ha : PA X (e :: es) t) (hdb : (x == ("__debug__" : Str)) = false := by decide) (hp : plainAll (e :: es) = true := by rfl) :
    PE X (.Call (.Name x p) (e :: es) [] pos) (tCall sp [] E0 t) := by
  have h' : (notStar e && plainAll es) = true := hp
  rw [Bool.and_eq_true] at h'
  exact pe_fn c hr hn hg ha hdb (starEach_c h'.1) (plain_any h'.2)
theorem pe_callBP (hc : CallR X (.builtin id) r) (hg : Gl X x) (hm : X.mg x = none) (hv : bootBuiltins x = some (.builtin id)) (ha : PA X (e :: es) t) (hn : x ≠ "__name__" := by decide) (hdb : (x == ("__debug__" : Str)) = false := by decide)
    (hp : plainAll (e :: es) = true := by rfl) : PE X (.Call (.Name x p) (e :: es) [] pos) (tCB r t) := by
  have h' : (notStar e && plainAll es) = true := hp
  rw [Bool.and_eq_true] at h'
  exact pe_callB hc hg hm hv ha hn hdb (starEach_c h'.1) (plain_any h'.2)
theorem pe_callTyP (hc : CallR X (.type T) r) (hg : Gl X x) (hm : X.mg x = none) (hv : bootBuiltins x = some (.type T)) (ha : PA X (e :: es) t) (hn : x ≠ "__name__" := by decide) (hdb : (x == ("__debug__" : Str)) = false := by decide)
    (hp : plainAll (e :: es) = true := by rfl) : PE X (.Call (.Name x p) (e :: es) [] pos) (tCB r t) := by
  have h' : (notStar e && plainAll es) = true := hp
  rw [Bool.and_eq_true] at h'
  exact pe_callTy hc hg hm hv ha hn hdb (starEach_c h'.1) (plain_any h'.2)
end
end L2

set_option Elab.async false
set_option linter.all false
set_option maxRecDepth 100000
set_option maxHeartbeats 1000000
namespace L2
open PySem PySem.Spec PyProof.Rows

/-! ### readings that compute: run by the goal's head alone -/
def ifB (b : Bool) (A B : Prop) : Prop := if b = true then A else B
theorem ifB_by {b : Bool} {A B : Prop} (h1 : b = true → A) (h2 : b = false → B) : ifB b A B := by
  cases b with
  | true => exact h1 rfl
  | false => exact h2 rfl
theorem ifB_t {b : Bool} {A B : Prop} (e : b = true) (h : A) : ifB b A B := by subst e; exact h
theorem ifB_f {b : Bool} {A B : Prop} (e : b = false) (h : B) : ifB b A B := by subst e; exact h
/-- a decision over ints, texts: the two ways -/
theorem ifD {c : Prop} [Decidable c] {A B : Prop} (h1 : c → A) (h2 : ¬ c → B) : ifB (decide c) A B := ifB_by (fun h => h1 (of_decide_eq_true h)) (fun h => h2 (of_decide_eq_false h))
theorem ifDt {c : Prop} [Decidable c] {A B : Prop} (hc : c) (h : A) : ifB (decide c) A B := ifB_t (decide_eq_true hc) h
theorem ifDf {c : Prop} [Decidable c] {A B : Prop} (hc : ¬ c) (h : B) : ifB (decide c) A B := ifB_f (decide_eq_false hc) h
theorem ifN {c : Prop} [Decidable c] {A B : Prop} (h1 : ¬ c → A) (h2 : c → B) : ifB (!decide c) A B := by
  by_cases h : c
  · rw [decide_eq_true h]; exact ifB_f rfl (h2 h)
  · rw [decide_eq_false h]; exact ifB_t rfl (h1 h)

theorem PE.imp {X : Cx} {e : Expr} {t t' : TE} (h : PE X e t) (i : ∀ σ H Q, t' σ H Q → t σ H Q) : PE X e t' := fun pins s σ H Q I q => h pins s σ H Q I (i σ H Q q)
theorem OpR.imp {X : Cx} {f : Value → Value → Sem Value} {r r' : R2} (h : OpR X f r) (i : ∀ x y H Q, r' x y H Q → r x y H Q) : OpR X f r' := fun pins s σ H x y v u Q I rx ry q => h pins s σ H x y v u Q I rx ry (i _ _ _ _ q)
theorem IxR.imp {X : Cx} {r r' : R2} (h : IxR X r) (i : ∀ x y H Q, r' x y H Q → r x y H Q) : IxR X r' := fun value slice pins s σ H x y v u Q I rx ry q => h value slice pins s σ H x y v u Q I rx ry (i _ _ _ _ q)
theorem CallR.imp {X : Cx} {f : Value} {r r' : List V → Hp → VK → Prop} (h : CallR X f r) (i : ∀ xs H Q, r' xs H Q → r xs H Q) : CallR X f r' := fun pins s σ H xs us Q I rx q => h pins s σ H xs us Q I rx (i _ _ _ q)
theorem MtR.imp {X : Cx} {id : String} {r r' : V → List V → Hp → VK → Prop} (h : MtR X id r) (i : ∀ x xs H Q, r' x xs H Q → r x xs H Q) : MtR X id r' := fun pins s σ H x xs v us Q I rx rs q => h pins s σ H x xs v us Q I rx rs (i _ _ _ _ q)

/-! names -/
def wVar (i : Nat) : TE := fun σ H Q => match σ[i]? with | some (some v) => Q v H | _ => False
theorem wv {X : Cx} (i : Nat) {x : Str} {pos : Pos} (hN : X.N[i]? = some x := by rfl) (hv : Vis X.env.scope x := by first | exact Or.inl rfl | exact Or.inr (Or.inl rfl) | exact Or.inr (Or.inr rfl)) (hd : (x == ("__debug__" : Str)) = false := by decide)
    (hcd : (x == ("__classdict__" : Str)) = false := by decide) : PE X (.Name x pos) (wVar i) :=
  (pe_var hN hv hd hcd).imp fun σ H Q h => by
    unfold wVar at h
    cases e : σ[i]? with
    | none => rw [e] at h; exact h.elim
    | some o =>
      cases o with
      | none => rw [e] at h; exact h.elim
      | some v => rw [e] at h; exact ⟨v, e, h⟩

/-! ints -/
def wI (g : Int → Int → V) : R2 := fun x y H Q => match x, y with | .int i, .int j => Q (g i j) H | _, _ => False
def wC (C : Int → Int → Prop) (g : Int → Int → V) : R2 := fun x y H Q => match x, y with | .int i, .int j => C i j ∧ Q (g i j) H | _, _ => False
theorem wI_imp {g : Int → Int → V} : ∀ x y H Q, wI g x y H Q → rI0 g x y H Q := fun x y H Q h => by
  cases x with
  | int i => cases y with
    | int j => exact ⟨i, j, rfl, rfl, h⟩
    | _ => exact False.elim h
  | _ => exact False.elim h
theorem wC_imp {C : Int → Int → Prop} {g : Int → Int → V} : ∀ x y H Q, wC C g x y H Q → rI C g x y H Q := fun x y H Q h => by
  cases x with
  | int i => cases y with
    | int j => exact ⟨i, j, rfl, rfl, h⟩
    | _ => exact False.elim h
  | _ => exact False.elim h
section
variable {X : Cx} {K : PySem.W.Frag}
theorem w_sub : OpR X (binaryOp .Sub) (wI fun i j => .int (i - j)) := op_sub.imp wI_imp
theorem w_fdiv : OpR X (binaryOp .FloorDiv) (wC CDiv fun i j => .int (i / j)) := op_fdiv.imp wC_imp
def wMod : R2 := fun x y H Q => match x, y with | .int i, .int j => 0 < j ∧ Q (.int (i % j)) H | _, _ => False
theorem w_mod : OpR X (binaryOp .Mod) wMod := op_mod.imp fun x y H Q h => wC_imp (C := fun _ j => 0 < j) (g := fun i j => .int (i % j)) x y H Q (by
  cases x with
  | int i => cases y with
    | int j => exact h
    | _ => exact False.elim h
  | _ => exact False.elim h)
theorem w_pow : OpR X (binaryOp .Pow) (wC CPow fun i j => .int (i ^ j.toNat)) := op_pow.imp wC_imp
theorem w_shl : OpR X (binaryOp .LShift) (wC CPow fun i j => .int (i * 2 ^ j.toNat)) := op_shl.imp wC_imp
def wShr : R2 := fun x y H Q => match x, y with | .int i, .int j => 0 ≤ j ∧ Q (.int (i / 2 ^ j.toNat)) H | _, _ => False
theorem w_lt : OpR X (compareOp .Lt) (wI fun i j => .bl (decide (i < j))) := op_lt.imp wI_imp
theorem w_le : OpR X (compareOp .LtE) (wI fun i j => .bl (decide (i ≤ j))) := op_le.imp wI_imp
theorem w_gt : OpR X (compareOp .Gt) (wI fun i j => .bl (decide (j < i))) := op_gt.imp wI_imp
theorem w_ge : OpR X (compareOp .GtE) (wI fun i j => .bl (decide (j ≤ i))) := op_ge.imp wI_imp
/-- + of ints, texts, lists -/
def catL (p q : Addr) (H : Hp) (Q : VK) : Prop := ∃ xs ys, H p = some (.lst xs) ∧ H q = some (.lst ys) ∧ xs.length + ys.length ≤ sizeLine ∧ ∀ l, H l = none → Q (.ref l) (upd H l (.lst (xs ++ ys)))
def wAdd : R2 := fun x y H Q => match x, y with
  | .int i, .int j => Q (.int (i + j)) H
  | .str a, .str b => a.length + b.length ≤ sizeLine ∧ Q (.str (a ++ b)) H
  | .ref p, .ref q => catL p q H Q
  | _, _ => False
theorem w_add : OpR X (binaryOp .Add) wAdd := (op_add.or (op_add_str.or op_cat)).imp fun x y H Q h => by
  cases x with
  | int i => cases y with
    | int j => exact .inl ⟨i, j, rfl, rfl, h⟩
    | _ => exact False.elim h
  | str a => cases y with
    | str b => exact .inr (.inl ⟨a, b, rfl, rfl, h⟩)
    | _ => exact False.elim h
  | ref p => cases y with
    | ref q => obtain ⟨xs, ys, h1, h2, h3, h4⟩ := h; exact .inr (.inr ⟨p, q, xs, ys, rfl, rfl, h1, h2, h3, h4⟩)
    | _ => exact False.elim h
  | _ => exact False.elim h
/-- * of ints, a text by an int -/
def wMul : R2 := fun x y H Q => match x, y with
  | .int i, .int j => CMul i j ∧ Q (.int (i * j)) H
  | .str z, .int n => (1 < n ∧ n ≤ 1000 ∧ 0 < z.length ∧ z.length ≤ 1000) ∧ Q (.str ⟨(List.replicate n.toNat z.cps).foldl (· ++ ·) #[]⟩) H
  | _, _ => False
theorem w_mul : OpR X (binaryOp .Mult) wMul := (op_mul.or op_mul_str).imp fun x y H Q h => by
  cases x with
  | int i => cases y with
    | int j => exact .inl ⟨i, j, rfl, rfl, h⟩
    | _ => exact False.elim h
  | str z => cases y with
    | int n => exact .inr ⟨z, n, rfl, rfl, h.1.1, h.1.2.1, h.1.2.2.1, h.1.2.2.2, h.2⟩
    | _ => exact False.elim h
  | _ => exact False.elim h
def wNeg : V → Hp → VK → Prop := fun x H Q => match x with | .int i => Q (.int (-i)) H | _ => False
theorem w_neg : UnR X (unaryOp .USub) wNeg := fun pins s σ H x v Q I rx h => by
  cases x with
  | int i => exact un_neg pins s σ H _ v Q I rx ⟨i, rfl, h⟩
  | _ => exact False.elim h

/-! == and != of plain values -/
def eqS : V → V → Option Bool
  | .non, .non => some true
  | .int i, .int j => some (decide (i = j))
  | .str a, .str b => some (decide (a = b))
  | .bl a, .bl b => some (decide (a = b))
  | .non, .int _ => some false | .int _, .non => some false | .non, .str _ => some false | .str _, .non => some false | .non, .bl _ => some false | .bl _, .non => some false
  | .int _, .str _ => some false | .str _, .int _ => some false | .bl _, .str _ => some false | .str _, .bl _ => some false
  | _, _ => none
theorem eqS_is {x y : V} {b : Bool} (h : eqS x y = some b) : scal x y = true ∧ decide (x = y) = b := by
  cases x <;> cases y <;> first | cases h | skip
  all_goals first
    | exact ⟨rfl, by simp⟩
    | (refine ⟨rfl, ?_⟩; simp)
def wEq : R2 := fun x y H Q => match eqS x y with | some b => Q (.bl b) H | none => False
def wNe : R2 := fun x y H Q => match eqS x y with | some b => Q (.bl (!b)) H | none => False
def wIsN (neg : Bool) : R2 := fun x y H Q => match y with
  | .non => (match x with | .non => Q (.bl (!neg)) H | _ => Q (.bl neg) H)
  | _ => False
theorem w_isN : OpR X (compareOp .Is) (wIsN false) := op_isN.imp fun x y H Q h => by
  cases y with
  | non => cases x <;> exact ⟨rfl, h⟩
  | _ => exact False.elim h
theorem w_notN : OpR X (compareOp .IsNot) (wIsN true) := op_notN.imp fun x y H Q h => by
  cases y with
  | non => cases x <;> exact ⟨rfl, h⟩
  | _ => exact False.elim h
/-! in -/
def seqIn (K : PySem.W.Frag) (neg : Bool) (x : V) (p : Addr) (H : Hp) (Q : VK) : Prop := ∃ xs, (SqL K H p xs ∨ SqT K H p xs) ∧ flatV x = true ∧ xs.all flatV = true ∧ Q (.bl (if neg then !inV x xs else inV x xs)) H
def strIn (a b : Str) : Bool := !(Builtin.Str.occurrences b a 0 b.length 1).isEmpty
def wIn (K : PySem.W.Frag) (neg : Bool) : R2 := fun x y H Q => match y with
  | .str b => (match x with | .str a => Q (.bl (if neg then !strIn a b else strIn a b)) H | _ => False)
  | .ref p => seqIn K neg x p H Q
  | _ => False
theorem w_in (hK : X.K = K) : OpR X (compareOp .In) (wIn K false) := (op_in_str.or (op_in_seqK hK)).imp fun x y H Q h => by
  cases y with
  | str b => cases x with
    | str a => exact .inl ⟨a, b, rfl, rfl, h⟩
    | _ => exact False.elim h
  | ref p => obtain ⟨xs, h1, h2, h3, h4⟩ := h; exact .inr ⟨p, xs, rfl, h1, h2, h3, h4⟩
  | _ => exact False.elim h
theorem w_notin (hK : X.K = K) : OpR X (compareOp .NotIn) (wIn K true) := (op_notin_str.or (op_notIn_seqK hK)).imp fun x y H Q h => by
  cases y with
  | str b => cases x with
    | str a => exact .inl ⟨a, b, rfl, rfl, h⟩
    | _ => exact False.elim h
  | ref p => obtain ⟨xs, h1, h2, h3, h4⟩ := h; exact .inr ⟨p, xs, rfl, h1, h2, h3, h4⟩
  | _ => exact False.elim h
/-! items, lengths -/
def seqAt (K : PySem.W.Frag) (p : Addr) (i : Int) (H : Hp) (Q : VK) : Prop := ∃ xs, (SqL K H p xs ∨ SqT K H p xs) ∧ ∃ v, atI xs i = some v ∧ Q v H
def signAt (z : Str) (i : Int) (H : Hp) (Q : VK) : Prop := z.length ≤ sizeLine ∧ ∃ c, atI z.cps.toList i = some c ∧ Q (.str ⟨#[c]⟩) H
def wIx (K : PySem.W.Frag) : R2 := fun x y H Q => match x, y with
  | .str z, .int i => signAt z i H Q
  | .ref p, .int i => seqAt K p i H Q
  | _, _ => False
theorem w_ix (hK : X.K = K) : IxR X (wIx K) := (ix_anyK hK).imp fun x y H Q h => by
  cases x with
  | str z => cases y with
    | int i => obtain ⟨h1, h2⟩ := h; exact ⟨i, rfl, .inl ⟨z, rfl, h1, h2⟩⟩
    | _ => exact False.elim h
  | ref p => cases y with
    | int i => obtain ⟨xs, h1, h2⟩ := h; exact ⟨i, rfl, .inr ⟨p, rfl, xs, h1, h2⟩⟩
    | _ => exact False.elim h
  | _ => exact False.elim h
def seqLen (K : PySem.W.Frag) (p : Addr) (H : Hp) (Q : VK) : Prop := ∃ ys, (SqL K H p ys ∨ SqT K H p ys) ∧ Q (.int ys.length) H
def wLen (K : PySem.W.Frag) : List V → Hp → VK → Prop := fun xs H Q => match xs with
  | [.str z] => z.length ≤ sizeLine ∧ Q (.int z.length) H
  | [.ref p] => seqLen K p H Q
  | _ => False
theorem w_len (hK : X.K = K) : CallR X (.builtin "len") (wLen K) := (call_lenK hK).imp fun xs H Q h => by
  match xs, h with
  | [.str z], h => exact ⟨_, rfl, .inl ⟨z, rfl, h⟩⟩
  | [.ref p], h => exact ⟨_, rfl, .inr ⟨p, rfl, h⟩⟩
/-! int(..), isinstance -/
def intOf (x : Str) (H : Hp) (Q : VK) : Prop := ∃ n, PySem.intText? x = some n ∧ x.length ≤ 640 ∧ Q (.int n) H
def wInt : List V → Hp → VK → Prop := fun xs H Q => match xs with
  | [.int i] => Q (.int i) H
  | [.bl k] => Q (.int (if k then 1 else 0)) H
  | [.str x] => intOf x H Q
  | _ => False
theorem w_int : CallR X (.type "int") wInt := (call_int1.or call_intS).imp fun xs H Q h => by
  match xs, h with
  | [.int i], h => exact .inl (.inl ⟨i, rfl, h⟩)
  | [.bl k], h => exact .inl (.inr ⟨k, rfl, h⟩)
  | [.str x], h => obtain ⟨n, h1, h2, h3⟩ := h; exact .inr ⟨x, n, rfl, h1, h2, h3⟩
/-- isinstance(x, T) of a plain value and a built-in type -/
def isiT : V → String → Option Bool
  | .non, T => some (T == "NoneType")
  | .bl _, T => some (T == "bool" || T == "int")
  | .int _, T => some (T == "int")
  | .str _, T => some (T == "str")
  | _, _ => none
def isiRef (K : PySem.W.Frag) (x c : V) (H : Hp) (Q : VK) : Prop := ∃ cv t b, cV c = some cv ∧ TyOf K H x t ∧ PySem.W.kitOne K t cv = some b ∧ Q (.bl b) H
def plainT (T : String) : Bool := T == "int" || T == "str" || T == "bool" || T == "list" || T == "tuple" || T == "dict"
def wIsi (K : PySem.W.Frag) : List V → Hp → VK → Prop := fun xs H Q => match xs with
  | [x, .ty T] => (match isiT x T with | some b => plainT T = true ∧ Q (.bl b) H | none => isiRef K x (.ty T) H Q)
  | [x, c] => isiRef K x c H Q
  | _ => False
end
theorem kit_plain {K : PySem.W.Frag} {H : Hp} {x : V} {T : String} {b : Bool} (h : isiT x T = some b) (hp : plainT T = true) : ∃ t, TyOf K H x t ∧ PySem.W.kitOne K t (.type T) = some b := by
  have ho : T = "int" ∨ T = "str" ∨ T = "bool" ∨ T = "list" ∨ T = "tuple" ∨ T = "dict" := by
    unfold plainT at hp
    simp only [Bool.or_eq_true, beq_iff_eq] at hp
    rcases hp with ((((h | h) | h) | h) | h) | h <;> simp [h]
  cases x with
  | non => refine ⟨_, .non, ?_⟩; rcases ho with rfl | rfl | rfl | rfl | rfl | rfl <;> (cases h; rfl)
  | bl y => refine ⟨_, .bl y, ?_⟩; rcases ho with rfl | rfl | rfl | rfl | rfl | rfl <;> (cases h; rfl)
  | int y => refine ⟨_, .int y, ?_⟩; rcases ho with rfl | rfl | rfl | rfl | rfl | rfl <;> (cases h; rfl)
  | str y => refine ⟨_, .str y, ?_⟩; rcases ho with rfl | rfl | rfl | rfl | rfl | rfl <;> (cases h; rfl)
  | _ => cases h
end L2

set_option Elab.async false
set_option linter.all false
set_option maxRecDepth 100000
set_option maxHeartbeats 1000000
namespace L2
open PySem PySem.Spec PyProof.Rows
section
variable {X : Cx} {K : PySem.W.Frag} {a b c e : Expr} {ta tb te : TE} {tA tB' : TT} {rest : List Expr} {pos : Pos}
theorem w_isi (hK : X.K = K) : CallR X (.builtin "isinstance") (wIsi K) := (call_isiK hK).imp fun xs H Q h => by
  have ref : ∀ x c, isiRef K x c H Q → rIsi K [x, c] H Q := fun x c ⟨cv, t, b, h1, h2, h3, h4⟩ => ⟨x, c, cv, t, b, rfl, h1, h2, h3, h4⟩
  match xs, h with
  | [x, .ty T], h =>
    have h' : (match isiT x T with | some b => plainT T = true ∧ Q (.bl b) H | none => isiRef K x (.ty T) H Q) := h
    cases e : isiT x T with
    | none => rw [e] at h'; exact ref _ _ h'
    | some b =>
      rw [e] at h'
      obtain ⟨t, h1, h2⟩ := kit_plain (K := K) (H := H) e h'.1
      exact ⟨x, .ty T, _, t, b, rfl, rfl, h1, h2, h'.2⟩
  | [x, .ref C], h => exact ref _ _ h
  | [x, .non], h => exact ref _ _ h
  | [x, .bl _], h => exact ref _ _ h
  | [x, .int _], h => exact ref _ _ h
  | [x, .str _], h => exact ref _ _ h
  | [x, .byt _], h => exact ref _ _ h
  | [x, .flt _], h => exact ref _ _ h

/-! tests -/
def wTest (t : TE) : TT := fun σ H Q => t σ H fun x H' => match x with | .bl k => Q k H' | _ => False
theorem wt_cmp {op : CmpOp} {r : R2} (ho : OpR X (compareOp op) r) (ha : PE X a ta) (hb : PE X b tb) (hm : behindInMarks op b = false) : PT X (.Compare a [op] [b] pos) (wTest (tOp r ta tb)) := by
  intro pins s σ H Q I h
  refine wpAny_isTrue_Compare1 (thn (ha pins s σ H _ I h) fun v s1 ⟨x, H1, I1, r1, q1⟩ => thn (hb pins s1 σ H1 _ I1 q1) fun u s2 ⟨y, H2, I2, r2, q2⟩ =>
    thn (ho pins s2 σ H2 x y v u _ I2 r1 r2 q2) fun cv s3 ⟨z, H3, I3, r3, q3⟩ => ?_) hm
  cases z with
  | bl k => cases r3; exact wpAny_truthy_bool ⟨H3, I3, q3⟩
  | _ => exact False.elim q3
/-- a value's truth -/
def seqTru (K : PySem.W.Frag) (p : Addr) (H : Hp) (Q : Bool → Hp → Prop) : Prop := (∃ xs, (SqL K H p xs ∨ SqT K H p xs) ∧ Q (!xs.isEmpty) H) ∨ ∃ kvs, H p = some (.dK kvs) ∧ Q (!kvs.isEmpty) H
def wTru (K : PySem.W.Frag) (ta : TE) : TT := fun σ H Q => ta σ H fun x H' => match x with
  | .bl k => Q k H'
  | .non => Q false H'
  | .int i => Q (i != 0) H'
  | .str y => y.length ≤ sizeLine ∧ Q ((y.length : Int) != 0) H'
  | .ref p => seqTru K p H' Q
  | _ => False
theorem wt_tr (hK : X.K = K) (ha : PE X a ta) (hp : plainTest a = true := by rfl) : PT X a (wTru K ta) := by
  subst hK
  intro pins s σ H Q I h
  refine isTrue_plain (thn (ha pins s σ H _ I h) fun v s1 ⟨x, H1, I1, r1, q1⟩ => ?_) (isTrue_c hp)
  cases x with
  | bl k => exact tru_ok pins s1 σ H1 _ v Q I1 r1 ⟨k, rfl, q1⟩
  | non => exact tru_ok pins s1 σ H1 _ v Q I1 r1 ⟨false, rfl, q1⟩
  | int i => exact tru_ok pins s1 σ H1 _ v Q I1 r1 ⟨_, rfl, q1⟩
  | str y => exact tru_ok pins s1 σ H1 _ v Q I1 r1 ⟨_, ⟨q1.1, rfl⟩, q1.2⟩
  | ref p =>
    rcases q1 with ⟨xs, hq | hq, q⟩ | ⟨kvs, hq, q⟩
    · exact tru_ok pins s1 σ H1 _ v Q I1 r1 ⟨_, .inl ⟨xs, hq, rfl⟩, q⟩
    · exact tru_ok pins s1 σ H1 _ v Q I1 r1 ⟨_, .inr (.inl ⟨xs, hq, rfl⟩), q⟩
    · exact tru_ok pins s1 σ H1 _ v Q I1 r1 ⟨_, .inr (.inr ⟨kvs, hq, rfl⟩), q⟩
  | _ => exact False.elim q1
def wAnd (t u : TT) : TT := fun σ H Q => t σ H fun c H1 => ifB c (u σ H1 Q) (Q false H1)
def wOr (t u : TT) : TT := fun σ H Q => t σ H fun c H1 => ifB c (Q true H1) (u σ H1 Q)
theorem ww_and (ha : PT X a tA) (hb : PW X (.BoolOp .And (b :: rest) pos) tB') : PW X (.BoolOp .And (a :: b :: rest) pos) (wAnd tA tB') := pw_and ha hb
theorem ww_or (ha : PT X a tA) (hb : PW X (.BoolOp .Or (b :: rest) pos) tB') : PW X (.BoolOp .Or (a :: b :: rest) pos) (wOr tA tB') := pw_or ha hb
/-- and, or, not as values; the first ones bools -/
def wAndV (ta tb : TE) : TE := fun σ H Q => ta σ H fun x H1 => match x with | .bl c => ifB c (tb σ H1 Q) (Q (.bl false) H1) | _ => False
def wOrV (ta tb : TE) : TE := fun σ H Q => ta σ H fun x H1 => match x with | .bl c => ifB c (Q (.bl true) H1) (tb σ H1 Q) | _ => False
def wNotV (tA : TT) : TE := fun σ H Q => tA σ H fun c H1 => Q (.bl (!c)) H1
theorem we_and (ha : PE X a ta) (hb : PE X (.BoolOp .And (b :: rest) pos) tb) : PE X (.BoolOp .And (a :: b :: rest) pos) (wAndV ta tb) := by
  intro pins s σ H Q I h
  refine BoolOp_and (thn (ha pins s σ H _ I h) fun v s1 ⟨x, H1, I1, r1, q1⟩ => ?_)
  cases x with
  | bl c =>
    cases r1
    refine wpAny_truthy_bool ?_
    cases c with
    | true => exact hb pins s1 σ H1 Q I1 q1
    | false => exact ⟨.bl false, H1, I1, rfl, q1⟩
  | _ => exact False.elim q1
/-- not of a value -/
def wNot (K : PySem.W.Frag) (ta : TE) : TE := fun σ H Q => ta σ H fun x H' => match x with
  | .bl k => Q (.bl (!k)) H'
  | .non => Q (.bl true) H'
  | .int i => Q (.bl (!(i != 0))) H'
  | .str y => y.length ≤ sizeLine ∧ Q (.bl (!((y.length : Int) != 0))) H'
  | .ref p => seqTru K p H' fun k H2 => Q (.bl (!k)) H2
  | _ => False
theorem we_not (hK : X.K = K) (ha : PE X a ta) : PE X (.UnaryOp .Not a pos) (wNot K ta) := by
  subst hK
  intro pins s σ H Q I h
  refine UnaryOp_ (thn (ha pins s σ H _ I h) fun v s1 ⟨x, H1, I1, r1, q1⟩ => ?_)
  have go : (∃ k, TruV X.K x H1 k ∧ Q (.bl (!k)) H1) → wpAny (model X.prog X.w) X.A (unaryOp .Not v) (EP X pins σ Q) X.xe s1 := fun h =>
    not_of (thn (tru_ok pins s1 σ H1 x v (fun k H2 => Q (.bl (!k)) H2) I1 r1 h) fun k s2 ⟨H2, I2, q2⟩ => ⟨.bl (!k), H2, I2, rfl, q2⟩)
  cases x with
  | bl k => exact go ⟨k, rfl, q1⟩
  | non => exact go ⟨false, rfl, q1⟩
  | int i => exact go ⟨_, rfl, q1⟩
  | str y => exact go ⟨_, ⟨q1.1, rfl⟩, q1.2⟩
  | ref p =>
    rcases q1 with ⟨xs, hq | hq, q⟩ | ⟨kvs, hq, q⟩
    · exact go ⟨_, .inl ⟨xs, hq, rfl⟩, q⟩
    · exact go ⟨_, .inr (.inl ⟨xs, hq, rfl⟩), q⟩
    · exact go ⟨_, .inr (.inr ⟨kvs, hq, rfl⟩), q⟩
  | _ => exact False.elim q1
def wIfE (t : TT) (ta tb : TE) : TE := fun σ H Q => t σ H fun c H1 => ifB c (ta σ H1 Q) (tb σ H1 Q)
theorem we_if (hc : PT X c tA) (ha : PE X a ta) (hb : PE X b tb) : PE X (.IfExp c a b pos) (wIfE tA ta tb) := pe_ifExp hc ha hb
def wIfS (c : TT) (t u : TS) : TS := fun D σ H => c σ H fun b H1 => ifB b (t D σ H1) (u D σ H1)
theorem ws_if {t u : TS} {p q : List Stmt} (hc : PT X c tA) (ha : PSs X p t) (hb : PSs X q u) : PS X (.If c p q pos) (wIfS tA t u) := ps_if hc ha hb

/-! slices -/
def slSeq (K : PySem.W.Frag) (p : Addr) (lo hi : Option Int) (H : Hp) (Q : VK) : Prop := (∃ xs, SqL K H p xs ∧ ∀ l, H l = none → Q (.ref l) (upd H l (.lst (cutV xs lo hi)))) ∨
  ∃ xs, SqT K H p xs ∧ ¬ (HT.sIx xs.length 0 lo = 0 ∧ HT.sIx xs.length xs.length hi = xs.length) ∧ ∀ l, H l = none → Q (.ref l) (upd H l (.tup (cutV xs lo hi)))
def wSl (K : PySem.W.Frag) : V → Option Int → Option Int → Hp → VK → Prop := fun x lo hi H Q => match x with | .ref p => slSeq K p lo hi H Q | _ => False
theorem w_sl (hK : X.K = K) : SlR X (wSl K) := by
  subst hK
  intro pins s σ H x v vl vu lo hi sl Q I rx hs pl pu h
  cases x with
  | ref p =>
    rcases h with ⟨xs, h1, h2⟩ | ⟨xs, h1, h2, h3⟩
    · exact sl_list pins s σ H _ v vl vu lo hi sl Q I rx hs pl pu ⟨p, xs, rfl, h1, h2⟩
    · exact sl_tup pins s σ H _ v vl vu lo hi sl Q I rx hs pl pu ⟨p, xs, rfl, h1, h2, h3⟩
  | _ => exact False.elim h
def wPart (t : TE) : TO := fun σ H Q => t σ H fun x H1 => match x with | .int i => Q (some i) H1 | _ => False
theorem wo_some (h : PE X e te) : PO X (some e) (wPart te) := by
  intro pins s σ H Q I hw
  rw [evalPart_some]
  refine thn (h pins s σ H _ I hw) fun u s1 ⟨x, H1, I1, r1, q1⟩ => ?_
  cases x with
  | int i => obtain ⟨t, rfl⟩ := r1; exact ⟨some i, H1, I1, .int i t, q1⟩
  | _ => exact False.elim q1

/-! methods of the built-in values -/
def wRecv (K : PySem.W.Frag) (T : String) (x : V) (H : Hp) (P : Prop) : Prop := match x with
  | .str _ => T = "str" ∧ P
  | .int _ => T = "int" ∧ P
  | .ref _ => tyV K T x H ∧ P
  | _ => False
def wBM (K : PySem.W.Frag) (T : String) (r : V → List V → Hp → VK → Prop) (to : TE) (t : TA) : TE := fun σ H Q => to σ H fun x H1 => wRecv K T x H1 (t σ H1 fun xs H2 => r x xs H2 Q)
end
section
variable {X : Cx} {K : PySem.W.Frag} {o e : Expr} {es : List Expr} {to : TE} {t : TA} {name : Str} {apos cpos : Pos} {T id : String} {r : V → List V → Hp → VK → Prop}
theorem wRecv_is {x : V} {H : Hp} {P : Prop} (h : wRecv K T x H P) : tyV K T x H ∧ P := by
  cases x with
  | str z => exact h
  | int i => exact h
  | ref p => exact h
  | _ => exact False.elim h
/-- a reading is monotone in its end when a rule holds of it: not needed here -/
theorem we_bm (hK : X.K = K) (pa : PlainAttrs T) (slot : Slot T name id) (hty : typeOf (.builtin id) = pure (.type "method_descriptor")) (hm : MtR X id r) (ho : PE X o to) (ha : PA X (e :: es) t)
    (hb : notCall0 o = true := by rfl) (hp : plainAll (e :: es) = true := by rfl) (hl : (e :: es).length < 29 := by decide) (hline : (apos.endLine == cpos.line) = true := by rfl) :
    PE X (.Call (.Attribute o name apos) (e :: es) [] cpos) (wBM K T r to t) := by
  subst hK
  have h' : (notStar e && plainAll es) = true := hp
  rw [Bool.and_eq_true] at h'
  have hs : starEach (e :: es) X.env = (false, eval e X.env) :: starEach es X.env := starEach_c h'.1
  have hplain : (backTo cpos (starEach es X.env)).any (·.1) = false := plain_any h'.2
  have hfew : ((backTo cpos (starEach (e :: es) X.env)).all (fun x => !x.1) && (backToKw cpos (keywordEach [] X.env)).all (fun x => x.1.isSome)
      && decide ((e :: es).length + ([] : List Keyword).length + (if ([] : List Keyword).isEmpty then 0 else 1) < 30)) = true := by
    rw [plain_all hp, arm_keywordEach_nil]
    show (true && true && decide ((e :: es).length + 0 + 0 < 30)) = true
    rw [decide_eq_true (by omega)]; rfl
  intro pins s σ H Q I h
  refine wpAny_Call_method_late (base_c hb) hfew hline rfl (thn (ho pins s σ H _ I h) fun v s1 ⟨x, H1, I1, r1, q1⟩ => ?_)
  obtain ⟨ty, q1⟩ := wRecv_is q1
  obtain ⟨h1, h2⟩ := tyV_is I1 r1 ty
  refine ⟨T, id, pa, slot, hty, h1, h2, ?_⟩
  have hA := ha cpos pins s1 σ H1 _ I1 q1
  rw [hs] at hA ⊢
  refine Calls.callWith_builtin (by show (false || (backTo cpos (starEach es X.env)).any (·.1)) = false; rw [hplain] <;> rfl) (Calls.evalArgs_plain ?_)
  exact thn hA fun us s2 ⟨vs, H2, I2, r2, q2⟩ => hm pins s2 σ H2 x vs v us Q I2 r1 r2 q2
def wBM0 (K : PySem.W.Frag) (T : String) (r : V → List V → Hp → VK → Prop) (to : TE) : TE := fun σ H Q => to σ H fun x H1 => wRecv K T x H1 (r x [] H1 Q)
def findV (z y : Str) : Int := match Builtin.Str.occurrences z y 0 z.length 1 with | i :: _ => (i : Int) | [] => -1
def wFind : V → List V → Hp → VK → Prop := fun x xs H Q => match x, xs with | .str z, [.str y] => Q (.int (findV z y)) H | _, _ => False
def joinL (K : PySem.W.Frag) (z : Str) (a : Addr) (H : Hp) (Q : VK) : Prop := ∃ ts : List Str, SqL K H a (ts.map V.str) ∧ (ts.toArray.foldl (· + ·.length + z.length) 0) ≤ sizeLine ∧ (Builtin.Str.glued z ts).length ≤ sizeLine ∧ Q (.str (Builtin.Str.glued z ts)) H
def wJoin (K : PySem.W.Frag) : V → List V → Hp → VK → Prop := fun x xs H Q => match x, xs with | .str z, [.ref a] => joinL K z a H Q | _, _ => False
theorem w_join (hK : X.K = K) : MtR X "str.join" (wJoin K) := (mt_joinK hK).imp fun x xs H Q h => by
  match x, xs, h with
  | .str z, [.ref a], h => obtain ⟨ts, h1⟩ := h; exact ⟨z, a, ts, rfl, rfl, h1⟩
def wBits : V → List V → Hp → VK → Prop := fun x xs H Q => match x, xs with | .int i, [] => Q (.int (Builtin.Int.intBits i)) H | _, _ => False
def appL (a : Addr) (y : V) (H : Hp) (Q : VK) : Prop := ∃ xs, H a = some (.lst xs) ∧ xs.length < sizeLine ∧ Q .non (upd H a (.lst (xs ++ [y])))
def wAppend : V → List V → Hp → VK → Prop := fun x xs H Q => match x, xs with | .ref a, [y] => appL a y H Q | _, _ => False
theorem w_append : MtR X "list.append" wAppend := by
  intro pins s σ H x xs v us Q I rx rs h
  match x, xs, h with
  | .ref a, [y], h =>
    obtain ⟨ys, h1, h2, h3⟩ := h
    exact mt_append pins s σ H _ _ v us Q I rx rs ⟨a, ys, y, rfl, rfl, h1, h2, h3⟩
/-! all, list(..), tuple(..) -/
def allL (K : PySem.W.Frag) (a : Addr) (H : Hp) (Q : VK) : Prop := ∃ bs : List Bool, SqL K H a (List.map V.bl bs) ∧ Q (.bl (bs.all _root_.id)) H
def wAll (K : PySem.W.Frag) : List V → Hp → VK → Prop := fun xs H Q => match xs with | [.ref a] => allL K a H Q | _ => False
theorem w_all (hK : X.K = K) (hc : X.calm = true) : CallR X (.builtin "all") (wAll K) := (call_allK hK hc).imp fun xs H Q h => by
  match xs, h with
  | [.ref a], h => obtain ⟨bs, h1⟩ := h; exact ⟨a, bs, rfl, h1⟩
def listL (K : PySem.W.Frag) (p : Addr) (H : Hp) (Q : VK) : Prop := ∃ ys, (SqL K H p ys ∨ SqT K H p ys) ∧ ∀ l, H l = none → Q (.ref l) (upd H l (.lst ys))
def wList (K : PySem.W.Frag) : List V → Hp → VK → Prop := fun xs H Q => match xs with | [.ref a] => listL K a H Q | _ => False
theorem w_list (hK : X.K = K) : CallR X (.type "list") (wList K) := (call_listK hK).imp fun xs H Q h => by
  match xs, h with
  | [.ref a], h => obtain ⟨ys, h1⟩ := h; exact ⟨a, ys, rfl, h1⟩
def tupL (K : PySem.W.Frag) (p : Addr) (H : Hp) (Q : VK) : Prop := ∃ ys, (SqL K H p ys ∧ ∀ l, H l = none → Q (.ref l) (upd H l (.tup ys))) ∨ (SqT K H p ys ∧ Q (.ref p) H)
def wTuple (K : PySem.W.Frag) : List V → Hp → VK → Prop := fun xs H Q => match xs with | [.ref a] => tupL K a H Q | _ => False
theorem w_tuple (hK : X.K = K) : CallR X (.type "tuple") (wTuple K) := (call_tupleK hK).imp fun xs H Q h => by
  match xs, h with
  | [.ref a], h => obtain ⟨ys, h1⟩ := h; exact ⟨a, ys, rfl, h1⟩

/-! iterables -/
def itSeq (K : PySem.W.Frag) (p : Addr) (H : Hp) (R : It → Hp → Prop) : Prop := (∃ xs, SqL K H p xs ∧ R (Itl K p) H) ∨ ∃ xs, SqT K H p xs ∧ R (Itt K p) H
def wSeq (K : PySem.W.Frag) (te : TE) : TI := fun σ H R => te σ H fun x H1 => match x with | .str z => R (Its z) H1 | .ref p => itSeq K p H1 R | _ => False
end
theorem wi_seq {X : Cx} {K : PySem.W.Frag} (hK : X.K = K) {tg e : Expr} {te : TE} (he : PE X e te) : PI X tg e (wSeq K te) := by
  subst hK
  intro pins s σ H R I h
  refine thn (he pins s σ H _ I h) fun v s1 ⟨x, H1, I1, r1, q⟩ => ?_
  have one : ∀ {t : TE}, True := fun {_} => trivial
  -- the value as an expression of its own: the rule for any sequence
  have go : ((∃ z, x = .str z ∧ R (Its z) H1) ∨ (∃ a, x = .ref a ∧ (∃ xs, SqL X.K H1 a xs) ∧ R (Itl X.K a) H1) ∨ (∃ a, x = .ref a ∧ (∃ xs, SqT X.K H1 a xs) ∧ R (Itt X.K a) H1)) →
      wpAny (model X.prog X.w) X.A (pyIter v) (PIE X pins σ tg R) X.xe s1 := fun q => by
    rcases q with ⟨z, rfl, q⟩ | ⟨a, rfl, ⟨xs, hq⟩, q⟩ | ⟨a, rfl, ⟨xs, hq⟩, q⟩
    · obtain ⟨t, rfl⟩ := r1
      have fp : ∀ b ∈ [s1.heap.objs.size], FpOk X pins H1 b := fun b hb => by
        have e : b = s1.heap.objs.size := by simpa using hb
        subst e
        exact I1.fpOk (Nat.le_refl _) (I1.hok.fresh (Nat.le_refl _))
      cases ha : z.cps.all (· < 128)
      · exact wpAny_pyIter_wide ha ⟨s1.heap.objs.size, [s1.heap.objs.size], _, _, H1, rfl, I1.kept (t' := s1.toks) fun b o e => Heap.get?_push_of_some _ e, turn_strA (.inr rfl), ⟨Nat.zero_le _, _, Heap.get?_push_size _ rfl, rfl, rfl⟩, fp, q⟩
      · exact wpAny_pyIter_ascii ha ⟨s1.heap.objs.size, [s1.heap.objs.size], _, _, H1, rfl, I1.kept (t' := s1.toks) fun b o e => Heap.get?_push_of_some _ e, turn_strA (.inl rfl), ⟨Nat.zero_le _, _, Heap.get?_push_size _ rfl, rfl, rfl⟩, fp, q⟩
    · cases r1
      obtain ⟨its, rv, p, hz⟩ := I1.list hq
      refine wpAny_pyIter_list p.isList ?_
      refine ⟨s1.heap.objs.size, [s1.heap.objs.size], _, _, H1, rfl, I1.kept (t' := s1.toks) fun b o e => Heap.get?_push_of_some _ e, turn_list a _, ⟨_, Heap.get?_push_size _ rfl, rfl, rfl⟩, fun b hb => ?_, q⟩
      have e : b = s1.heap.objs.size := by simpa using hb
      subst e
      exact I1.fpOk (Nat.le_refl _) (I1.hok.fresh (Nat.le_refl _))
    · cases r1
      obtain ⟨its, rv, p, hz⟩ := I1.tuple hq
      refine wpAny_pyIter_tuple (show s1.heap.IsTuple a its.toArray from p) ?_
      refine ⟨s1.heap.objs.size, [s1.heap.objs.size], _, _, H1, rfl, I1.kept (t' := s1.toks) fun b o e => Heap.get?_push_of_some _ e, turn_tuple a _, ⟨_, Heap.get?_push_size _ rfl, rfl, rfl⟩, fun b hb => ?_, q⟩
      have e : b = s1.heap.objs.size := by simpa using hb
      subst e
      exact I1.fpOk (Nat.le_refl _) (I1.hok.fresh (Nat.le_refl _))
  cases x with
  | str z => exact go (.inl ⟨z, rfl, q⟩)
  | ref p =>
    rcases q with ⟨xs, h1, h2⟩ | ⟨xs, h1, h2⟩
    · exact go (.inr (.inl ⟨p, rfl, ⟨xs, h1⟩, h2⟩))
    · exact go (.inr (.inr ⟨p, rfl, ⟨xs, h1⟩, h2⟩))
  | _ => exact False.elim q
section
variable {X : Cx} {tg : Expr}
def wRng1 (ta : TA) : TI := fun σ H R => ta σ H fun vs H1 => match vs with | [.int j] => (-4611686018427387904 ≤ j ∧ j < 4611686018427387904) ∧ R (Itr 0 j.toNat) H1 | _ => False
def wRng2 (ta : TA) : TI := fun σ H R => ta σ H fun vs H1 => match vs with | [.int i, .int j] => (-4611686018427387904 ≤ i ∧ i < 4611686018427387904 ∧ -4611686018427387904 ≤ j ∧ j < 4611686018427387904) ∧ R (Itr i (j - i).toNat) H1 | _ => False
theorem wi_range1 {a : Expr} {ta : TA} {p pos : Pos} (hg : Gl X "range") (hm : X.mg "range" = none) (ha : PA X [a] ta) (hs : notStar a = true := by rfl) : PI X tg (.Call (.Name "range" p) [a] [] pos) (wRng1 ta) := by
  intro pins s σ H R I h
  refine Call_ (ld_blt I hg hm boot_range (PyProof.Rows.callWith_type1 (thn (ha pos pins s σ H _ I h) fun us s1 ⟨vs, H1, I1, r1, q1⟩ => ?_) (starEach_c hs) rfl))
  match vs, q1 with
  | [.int j], q1 =>
    cases r1 with
    | cons r rr =>
      cases rr
      obtain ⟨t, rfl⟩ := r
      have h1 : -4611686018427387904 ≤ j := q1.1.1
      have h2 : j < 4611686018427387904 := q1.1.2
      exact call_range_1 (range_it I1 (by omega) (by omega) (by omega) (by omega) (by simpa using q1.2))
/-! stores -/
def setL (p : Addr) (k : Int) (v : V) (H : Hp) (Q : Hp → Prop) : Prop := ∃ xs j, H p = some (.lst xs) ∧ ixN xs.length k = some j ∧ Q (upd H p (.lst (xs.set j v)))
def wSet : V → V → V → Hp → (Hp → Prop) → Prop := fun o i v H Q => match o, i with | .ref p, .int k => setL p k v H Q | _, _ => False
/-- (a, b, ..) = a tuple -/
def unpT (K : PySem.W.Frag) (n : Nat) (a : Addr) (H : Hp) (P : List V → Prop) : Prop := ∃ xs, SqT K H a xs ∧ xs.length = n ∧ P xs
def wTup (K : PySem.W.Frag) (n : Nat) (t : TGs) : TG := fun v σ H Q => match v with | .ref a => unpT K n a H fun xs => t xs σ H Q | _ => False
def wgCons (t : TG) (u : TGs) : TGs := fun vs σ H Q => match vs with | v :: r => t v σ H fun σ' H' => u r σ' H' Q | [] => False
def wgNil : TGs := fun vs σ H Q => match vs with | [] => Q σ H | _ => False
end

/-! ### loops and comprehensions -/
def wComp (pk : List (Option Nat)) (wi : TI) (g : TG) (tt : TT) (te : TE) : TE := fun σ H Q => wi σ H fun J H1 => cmpW J pk g tt te σ H1 Q
def wFor (wi : TI) (g : TG) (tb : TS) : TS := fun D σ H => wi σ H fun J H1 => forW J g tb D σ H1
section
variable {X : Cx} {scope : Scope} {N' : List Str} {pk : List (Option Nat)} {tg elt iter : Expr} {ifs : List Expr} {pos : Pos} {wi : TI} {g : TG} {tt : TT} {te : TE}
def notSet : Expr → Bool
  | .Set _ _ _ => false
  | _ => true
theorem foldedSet_c {e : Expr} {env : Env} (h : notSet e = true) (x : Value) : foldedSetIterable e env x = pure x := by
  unfold foldedSetIterable
  cases e <;> first | rfl | cases h
theorem we_comp (hc : X.calm = true) (S : CompScope X scope N' pk) (hi : PI X tg iter wi) (hg : ∀ C s H ex, PG (compCx X scope N' C s H ex) tg g) (ht : ∀ C s H ex, PTs (compCx X scope N' C s H ex) ifs tt)
    (he : ∀ C s H ex, PE (compCx X scope N' C s H ex) elt te) (hs : notSet iter = true := by rfl) : PE X (.ListComp elt [⟨tg, iter, ifs, 0⟩] scope pos) (wComp pk wi g tt te) :=
  pe_comp hc S hi hg ht he (foldedSet_c hs)
theorem ws_setC {i : Nat} {x : Str} {px spos : Pos} (hc : X.calm = true) (hN : X.N.Nodup) (hx : X.N[i]? = some x) (hl : Loc X.env.scope x) (S : CompScope X scope N' pk) (hi : PI X tg iter wi) (hg : ∀ C s H ex, PG (compCx X scope N' C s H ex) tg g)
    (ht : ∀ C s H ex, PTs (compCx X scope N' C s H ex) ifs tt) (he : ∀ C s H ex, PE (compCx X scope N' C s H ex) elt te) (hs : notSet iter = true := by rfl)
    (hsw : swapsWith (.ListComp elt [⟨tg, iter, ifs, 0⟩] scope pos) (some (.Name x px)) spos.line X.env = pure true := by rfl) (hf : X.fn x = true ∨ X.env.scope.names.lookup x = some .local := by first | exact .inl rfl | exact .inr rfl | assumption) :
    PS X (.Assign [.Name x px] (.ListComp elt [⟨tg, iter, ifs, 0⟩] scope pos) spos) (tAsg (wComp pk wi g tt te) (gName i)) :=
  ps_setC hc hN hx hl S hi hg ht he (foldedSet_c hs) hsw hf
theorem ws_for {body : List Stmt} {tb : TS} (hp : PassesOwn (model X.prog X.w) X.A X.env X.xe) (hc : X.calm = true) (hi : PI X tg iter wi) (hg : PG X tg g) (hb : PSs X body tb)
    (hs : notSet iter = true := by rfl) : PS X (.For tg iter body [] pos) (wFor wi g tb) := ps_for hp hc hi hg hb (foldedSet_c hs)
end
/-! ### while -/
def wWhile (c : TT) (tb : TS) : TS := fun D σ H => ∃ W : Nat → St → Hp → Prop, (∃ m, W m σ H) ∧ ∀ m σ H, W m σ H →
  c σ H fun b H1 => ifB b (∃ N : St → Hp → Prop, (∀ σ' H', N σ' H' → ∃ m', m' < m ∧ W m' σ' H') ∧ tb { D with nx := N, ct := N, bk := D.nx } σ H1) (D.nx σ H1)
/-! ### a statement whose ways meet behind it -/
def tCut (t u : TS) : TS := fun D σ H => ∃ M : St → Hp → Prop, t { D with nx := M } σ H ∧ ∀ σ' H', M σ' H' → u D σ' H'
theorem pss_cut {X : Cx} {st : Stmt} {rest : List Stmt} {t u : TS} (h1 : PS X st t) (h2 : PSs X rest u) : PSs X (st :: rest) (tCut t u) := by
  intro pins s σ H D I h
  obtain ⟨M, ht, hM⟩ := h
  refine wpAny_execs_cons (thn (h1 pins s σ H { D with nx := M } I ht) fun f s1 q => ?_)
  cases f with
  | next =>
    obtain ⟨σ', H', I', q⟩ := q
    exact h2 pins s1 σ' H' D I' (hM σ' H' q)
  | ret v => exact q
  | brk => exact q
  | cont => exact q
theorem cutI {t u : TS} {D : Ends} {σ : St} {H : Hp} (M : St → Hp → Prop) (h1 : t { D with nx := M } σ H) (h2 : ∀ σ' H', M σ' H' → u D σ' H') : tCut t u D σ H := ⟨M, h1, h2⟩
/-! ### how the stops are passed -/
section
variable {K : PySem.W.Frag} {H : Hp} {p q : Addr} {xs ys : List V} {Q : VK}
theorem seqLenL (h : SqL K H p ys) (g : Q (.int ys.length) H) : seqLen K p H Q := ⟨ys, .inl h, g⟩
theorem seqLenT (h : SqT K H p ys) (g : Q (.int ys.length) H) : seqLen K p H Q := ⟨ys, .inr h, g⟩
theorem seqAtL {i : Int} {v : V} (h : SqL K H p xs) (e : atI xs i = some v) (g : Q v H) : seqAt K p i H Q := ⟨xs, .inl h, v, e, g⟩
theorem seqAtT {i : Int} {v : V} (h : SqT K H p xs) (e : atI xs i = some v) (g : Q v H) : seqAt K p i H Q := ⟨xs, .inr h, v, e, g⟩
theorem signAtI {z : Str} {i : Int} {c : Nat} (hz : z.length ≤ sizeLine) (e : atI z.cps.toList i = some c) (g : Q (.str ⟨#[c]⟩) H) : signAt z i H Q := ⟨hz, c, e, g⟩
theorem seqNotInT {x : V} (h : SqT K H p xs) (h1 : flatV x = true) (h2 : xs.all flatV = true) (g : Q (.bl (!inV x xs)) H) : seqIn K true x p H Q := ⟨xs, .inr h, h1, h2, g⟩
theorem intOfI {x : Str} {n : Int} (e : PySem.intText? x = some n) (hl : x.length ≤ 640) (g : Q (.int n) H) : intOf x H Q := ⟨n, e, hl, g⟩
theorem slSeqL {lo hi : Option Int} (h : SqL K H p xs) (g : ∀ l, H l = none → Q (.ref l) (upd H l (.lst (cutV xs lo hi)))) : slSeq K p lo hi H Q := .inl ⟨xs, h, g⟩
theorem slSeqT {lo hi : Option Int} (h : SqT K H p xs) (hw : ¬ (HT.sIx xs.length 0 lo = 0 ∧ HT.sIx xs.length xs.length hi = xs.length)) (g : ∀ l, H l = none → Q (.ref l) (upd H l (.tup (cutV xs lo hi)))) : slSeq K p lo hi H Q := .inr ⟨xs, h, hw, g⟩
theorem joinLI {z : Str} {ts : List Str} (h : SqL K H p (ts.map V.str)) (h1 : (ts.toArray.foldl (· + ·.length + z.length) 0) ≤ sizeLine) (h2 : (Builtin.Str.glued z ts).length ≤ sizeLine) (g : Q (.str (Builtin.Str.glued z ts)) H) : joinL K z p H Q := ⟨ts, h, h1, h2, g⟩
theorem appLI {y : V} (h : H p = some (.lst xs)) (hz : xs.length < sizeLine) (g : Q .non (upd H p (.lst (xs ++ [y])))) : appL p y H Q := ⟨xs, h, hz, g⟩
theorem allLI {bs : List Bool} (h : SqL K H p (List.map V.bl bs)) (g : Q (.bl (bs.all id)) H) : allL K p H Q := ⟨bs, h, g⟩
theorem tupLL (h : SqL K H p ys) (g : ∀ l, H l = none → Q (.ref l) (upd H l (.tup ys))) : tupL K p H Q := ⟨ys, .inl ⟨h, g⟩⟩
theorem itSeqL {R : It → Hp → Prop} (h : SqL K H p xs) (g : R (Itl K p) H) : itSeq K p H R := .inl ⟨xs, h, g⟩
theorem itSeqT {R : It → Hp → Prop} (h : SqT K H p xs) (g : R (Itt K p) H) : itSeq K p H R := .inr ⟨xs, h, g⟩
end
theorem cmul_l {i j : Int} (h1 : -18446744073709551616 < i) (h2 : i < 18446744073709551616) : CMul i j := .inl ⟨h1, h2⟩
theorem cmul_r {i j : Int} (h1 : -18446744073709551616 < j) (h2 : j < 18446744073709551616) : CMul i j := .inr ⟨h1, h2⟩
theorem cdivI {i j : Int} (h1 : 0 < j) (h2 : j < 1073741824) : CDiv i j := ⟨h1, h2⟩
theorem cpowI {i j : Int} (h1 : 0 ≤ j) (h2 : j ≤ 1000000) (h3 : i.natAbs < 18446744073709551616) : CPow i j := ⟨h1, h2, h3⟩
theorem len_codes (x : Str) : x.cps.toList.length = x.length := by simp [Str.length]
/-! ### draws: the same in every law -/
def mcell (ns : List Int) (k : Int) : Int := if 0 < ns.length then ns.getD (k % (ns.length : Int)).toNat 0 % 2147483629 else 0
def mdraw (ns : List Int) (k many : Int) : Int := (mcell ns k + 1) * (31 * k * k + 7919) % 2147483647 * 48271 % 2147483629 % many
/-- the script: a list of at most 63 ints -/
def Scr (K : PySem.W.Frag) (H : Hp) (a : Addr) (ns : List Int) : Prop := SqL K H a (ns.map V.int) ∧ ns.length ≤ 63
def spDraw (K : PySem.W.Frag) : Sp := fun vs H Q _ => ∃ a ns k many, vs = [.ref a, .int k, .int many] ∧ Scr K H a ns ∧ 0 ≤ k ∧ k < 1000 ∧ 0 < many ∧ Q (.int (mdraw ns k many)) H
end L2

set_option Elab.async false
set_option linter.all false
set_option maxRecDepth 100000
set_option maxHeartbeats 1000000
namespace L2
open PySem PySem.Spec PyProof.Rows
/-! ### list(reversed(xs)) -/
section
variable {prog : Program} {w : World} {A : Around} {E : Value → Shared → Prop} {s : Shared}
def RevAt (items : Array Value) (i : Nat) (v : Value) : Prop := items[items.size - 1 - i]? = some v
end
def revL (K : PySem.W.Frag) (a : Addr) (H : Hp) (Q : VK) : Prop := ∃ xs, SqL K H a xs ∧ ∀ l, H l = none → Q (.ref l) (upd H l (.lst xs.reverse))
def wRev (K : PySem.W.Frag) (te : TE) : TE := fun σ H Q => te σ H fun x H1 => match x with | .ref a => revL K a H1 Q | _ => False
end L2

set_option Elab.async false
set_option linter.all false
set_option maxRecDepth 100000
set_option maxHeartbeats 1000000
namespace L2
open PySem PySem.Spec PyProof.Rows
/-! ### data: what a value is worth, however it lies -/
inductive D where
  | non | bl (b : Bool) | int (i : Int) | str (x : Str) | lst (ds : List D) | tup (ds : List D)
mutual
def eqD : D → D → Bool
  | .non, .non => true
  | .bl a, .bl b => a == b
  | .bl a, .int b => (if a then 1 else 0) == b
  | .int a, .bl b => a == (if b then 1 else 0)
  | .int a, .int b => a == b
  | .str a, .str b => a == b
  | .lst xs, .lst ys => eqDs xs ys
  | .tup xs, .tup ys => eqDs xs ys
  | _, _ => false
def eqDs : List D → List D → Bool
  | [], [] => true
  | x :: xs, y :: ys => eqD x y && eqDs xs ys
  | _, _ => false
end
mutual
theorem eqD_refl : ∀ d : D, eqD d d = true
  | .non => rfl
  | .bl a => by simp [eqD]
  | .int a => by simp [eqD]
  | .str a => by simp [eqD]
  | .lst xs => by rw [eqD]; exact eqDs_refl xs
  | .tup xs => by rw [eqD]; exact eqDs_refl xs
theorem eqDs_refl : ∀ ds : List D, eqDs ds ds = true
  | [] => rfl
  | d :: ds => by rw [eqDs, eqD_refl d, eqDs_refl ds]; rfl
end
theorem eqDs_len : ∀ {xs ys : List D}, xs.length ≠ ys.length → eqDs xs ys = false
  | [], [], h => absurd rfl h
  | [], _ :: _, _ => by simp [eqDs]
  | _ :: _, [], _ => by simp [eqDs]
  | x :: xs, y :: ys, h => by
    rw [eqDs, eqDs_len (xs := xs) (ys := ys) (by simpa using h), Bool.and_false]
theorem eqDs_all : ∀ {xs ys : List D}, xs.length = ys.length → ((List.range xs.length).all fun j => eqD (xs.getD j .non) (ys.getD j .non)) = eqDs xs ys
  | [], [], _ => rfl
  | [], _ :: _, h => by simp at h
  | _ :: _, [], h => by simp at h
  | x :: xs, y :: ys, h => by
    have ih := eqDs_all (xs := xs) (ys := ys) (by simpa using h)
    rw [eqDs, ← ih, List.length_cons, List.range_succ_eq_map, List.all_cons, List.all_map]
    rfl
inductive Den (K : PySem.W.Frag) (H : Hp) : V → D → Prop
  | non : Den K H .non .non
  | bl (b : Bool) : Den K H (.bl b) (.bl b)
  | int (i : Int) : Den K H (.int i) (.int i)
  | str (x : Str) : Den K H (.str x) (.str x)
  | lst {a : Addr} {xs : List V} {ds : List D} (h : SqL K H a xs) (hl : xs.length = ds.length) (hi : ∀ (i : Nat) x d, xs[i]? = some x → ds[i]? = some d → Den K H x d) : Den K H (.ref a) (.lst ds)
  | tup {a : Addr} {xs : List V} {ds : List D} (h : SqT K H a xs) (hl : xs.length = ds.length) (hi : ∀ (i : Nat) x d, xs[i]? = some x → ds[i]? = some d → Den K H x d) : Den K H (.ref a) (.tup ds)
mutual
def dep : D → Nat
  | .lst ds => deps ds + 1
  | .tup ds => deps ds + 1
  | _ => 0
def deps : List D → Nat
  | [] => 0
  | d :: ds => max (dep d) (deps ds)
end
theorem dep_le : ∀ {ds : List D} {i : Nat} {d : D}, ds[i]? = some d → dep d ≤ deps ds
  | [], _, _, h => by simp at h
  | d :: ds, 0, _, h => by simp at h; subst h; rw [deps]; exact Nat.le_max_left _ _
  | d :: ds, i + 1, e, h => by
    have := dep_le (ds := ds) (i := i) (d := e) (by simpa using h)
    rw [deps]; exact Nat.le_trans this (Nat.le_max_right _ _)
section
variable {X : Cx} {pins : List (Addr × Obj)} {σ : St} {H : Hp} {s : Shared}
theorem not_both {a : Addr} {xs ys : List V} (I : Inv X pins σ H s) (h : SqL X.K H a xs) (h' : SqT X.K H a ys) : False := by
  obtain ⟨its, _, p, _⟩ := I.list h
  obtain ⟨its2, _, p2, _⟩ := I.tuple h'
  obtain ⟨o, e, c, _⟩ := p.isList
  obtain ⟨o', e', c', _⟩ := p2
  rw [e] at e'; cases e'
  rw [c] at c'
  injection c' with c2
  exact absurd c2 (by decide)
theorem Den.inj (I : Inv X pins σ H s) {x : V} {d e : D} (h : Den X.K H x d) (h' : Den X.K H x e) : d = e := by
  induction h generalizing e with
  | non => cases h'; rfl
  | bl b => cases h'; rfl
  | int i => cases h'; rfl
  | str z => cases h'; rfl
  | @lst a xs ds hq hl hi ih =>
    cases h' with
    | @lst _ ys es hq' hl' hi' =>
      have exy := I.list_inj hq hq'
      subst exy
      congr 1
      refine List.ext_getElem (by omega) fun i h1 h2 => ?_
      exact ih i xs[i] _ (by simp) (by simp [h1]) (hi' i xs[i] _ (by simp) (by simp [h2]))
    | tup hq' _ _ => exact (not_both I hq hq').elim
  | @tup a xs ds hq hl hi ih =>
    cases h' with
    | @tup _ ys es hq' hl' hi' =>
      have exy := I.tuple_inj hq hq'
      subst exy
      congr 1
      refine List.ext_getElem (by omega) fun i h1 h2 => ?_
      exact ih i xs[i] _ (by simp) (by simp [h1]) (hi' i xs[i] _ (by simp) (by simp [h2]))
    | lst hq' _ _ => exact (not_both I hq' hq).elim
open PySem.SeqAt in
theorem eqAt_den (I : Inv X pins σ H s) {x : V} {d : D} (h : Den X.K H x d) : ∀ {y : V} {e : D} {u v : Value} {A : Around}, Den X.K H y e → RelV x u → RelV y v → A.units + dep d < cLine → EqAt A s u v (eqD d e) := by
  have flat : ∀ {x y : V} {u v : Value} {A : Around}, flatV x = true → flatV y = true → RelV x u → RelV y v → EqAt A s u v (eqV x y) := fun f1 f2 r1 r2 => eqAt_V r1 r2 f1 f2
  induction h with
  | non =>
    intro y e u v A hy ru rv hu
    cases hy with
    | non => exact flat (x := .non) (y := .non) rfl rfl ru rv
    | bl b => exact flat (x := .non) (y := .bl b) rfl rfl ru rv
    | int i => exact flat (x := .non) (y := .int i) rfl rfl ru rv
    | str z => exact flat (x := .non) (y := .str z) rfl rfl ru rv
    | lst hq _ _ => cases ru; cases rv; obtain ⟨_, _, p, _⟩ := I.list hq; exact EqAt.none_list p.isList (by omega)
    | tup hq _ _ => cases ru; cases rv; obtain ⟨_, _, p, _⟩ := I.tuple hq; exact EqAt.none_tuple p (by omega)
  | bl b =>
    intro y e u v A hy ru rv hu
    cases hy with
    | non => exact flat (x := .bl b) (y := .non) rfl rfl ru rv
    | bl c => exact flat (x := .bl b) (y := .bl c) rfl rfl ru rv
    | int i => exact flat (x := .bl b) (y := .int i) rfl rfl ru rv
    | str z => exact flat (x := .bl b) (y := .str z) rfl rfl ru rv
    | lst hq _ _ => cases ru; cases rv; obtain ⟨_, _, p, _⟩ := I.list hq; exact EqAt.bool_list b p.isList (by omega)
    | tup hq _ _ => cases ru; cases rv; obtain ⟨_, _, p, _⟩ := I.tuple hq; exact EqAt.bool_tuple b p (by omega)
  | int i =>
    intro y e u v A hy ru rv hu
    cases hy with
    | non => exact flat (x := .int i) (y := .non) rfl rfl ru rv
    | bl c => exact flat (x := .int i) (y := .bl c) rfl rfl ru rv
    | int j => exact flat (x := .int i) (y := .int j) rfl rfl ru rv
    | str z => exact flat (x := .int i) (y := .str z) rfl rfl ru rv
    | lst hq _ _ => obtain ⟨t, rfl⟩ := ru; cases rv; obtain ⟨_, _, p, _⟩ := I.list hq; exact EqAt.int_list i t p.isList (by omega)
    | tup hq _ _ => obtain ⟨t, rfl⟩ := ru; cases rv; obtain ⟨_, _, p, _⟩ := I.tuple hq; exact EqAt.int_tuple i t p (by omega)
  | str z =>
    intro y e u v A hy ru rv hu
    cases hy with
    | non => exact flat (x := .str z) (y := .non) rfl rfl ru rv
    | bl c => exact flat (x := .str z) (y := .bl c) rfl rfl ru rv
    | int j => exact flat (x := .str z) (y := .int j) rfl rfl ru rv
    | str z' => exact flat (x := .str z) (y := .str z') rfl rfl ru rv
    | lst hq _ _ => obtain ⟨t, rfl⟩ := ru; cases rv; obtain ⟨_, _, p, _⟩ := I.list hq; exact EqAt.str_list z t p.isList (by omega)
    | tup hq _ _ => obtain ⟨t, rfl⟩ := ru; cases rv; obtain ⟨_, _, p, _⟩ := I.tuple hq; exact EqAt.str_tuple z t p (by omega)
  | @lst a xs ds hq hl hi ih =>
    intro y e u v A hy ru rv hu
    have hd0 : dep (.lst ds) = deps ds + 1 := by rw [dep]
    cases ru
    obtain ⟨its, r1, p1, z1⟩ := I.list hq
    cases hy with
    | non => cases rv; exact EqAt.list_none p1.isList (by omega)
    | bl b => cases rv; exact EqAt.list_bool b p1.isList (by omega)
    | int j => obtain ⟨t, rfl⟩ := rv; exact EqAt.list_int j t p1.isList (by omega)
    | str z => obtain ⟨t, rfl⟩ := rv; exact EqAt.list_str z t p1.isList (by omega)
    | @lst b ys es hq' hl' hi' =>
      cases rv
      by_cases hab : a = b
      · subst hab
        have e := Den.inj I (.lst hq hl hi) (.lst hq' hl' hi')
        rw [← e, eqD_refl]
        exact EqAt.same _
      obtain ⟨its2, r2, p2, z2⟩ := I.list hq'
      rw [eqD]
      have l1 := r1.length
      have l2 := r2.length
      by_cases hlen : ds.length = es.length
      · rw [← eqDs_all hlen]
        have es1 : ds.length = its.toArray.size := by rw [List.size_toArray]; omega
        rw [es1]
        refine EqAt.of_refs hab (RcAt.lists p1.isList p2.isList (by simp only [List.size_toArray]; omega) (by omega) fun j h1 h2 => ?_)
        have j1 : j < xs.length := by rw [List.size_toArray] at h1; omega
        have j2 : j < ys.length := by rw [List.size_toArray] at h2; omega
        obtain ⟨w1, e1, q1⟩ := r1.get (i := j) (x := xs[j]) (by simp)
        obtain ⟨w2, e2, q2⟩ := r2.get (i := j) (x := ys[j]) (by simp)
        have k1 : its.toArray[j] = w1 := by
          have : its[j]? = some its.toArray[j] := by simp
          rw [this] at e1; exact Option.some.inj e1
        have k2 : its2.toArray[j] = w2 := by
          have : its2[j]? = some its2.toArray[j] := by simp
          rw [this] at e2; exact Option.some.inj e2
        rw [k1, k2]
        have d1 : ds[j]? = some (ds.getD j .non) := by simp [List.getD, List.getElem?_eq_getElem (show j < ds.length by omega)]
        have d2 : es[j]? = some (es.getD j .non) := by simp [List.getD, List.getElem?_eq_getElem (show j < es.length by omega)]
        have hdj := dep_le d1
        refine ih j xs[j] _ (by simp) d1 (hi' j ys[j] _ (by simp) d2) q1 q2 ?_
        have : A.in1.units = A.units + 1 := rfl
        omega
      · rw [eqDs_len hlen]
        exact EqAt.of_refs hab (RcAt.lists_lengths p1.isList p2.isList (by simp only [List.size_toArray]; rw [bne_iff_ne]; omega) (by omega))
    | tup hq' _ _ => cases rv; obtain ⟨_, _, p2, _⟩ := I.tuple hq'; exact EqAt.list_tuple p1.isList p2 (by omega)
  | @tup a xs ds hq hl hi ih =>
    intro y e u v A hy ru rv hu
    have hd0 : dep (.tup ds) = deps ds + 1 := by rw [dep]
    cases ru
    obtain ⟨its, r1, p1, z1⟩ := I.tuple hq
    cases hy with
    | non => cases rv; exact EqAt.tuple_none p1 (by omega)
    | bl b => cases rv; exact EqAt.tuple_bool b p1 (by omega)
    | int j => obtain ⟨t, rfl⟩ := rv; exact EqAt.tuple_int j t p1 (by omega)
    | str z => obtain ⟨t, rfl⟩ := rv; exact EqAt.tuple_str z t p1 (by omega)
    | lst hq' _ _ => cases rv; obtain ⟨_, _, p2, _⟩ := I.list hq'; exact EqAt.tuple_list p1 p2.isList (by omega)
    | @tup b ys es hq' hl' hi' =>
      cases rv
      by_cases hab : a = b
      · subst hab
        have e := Den.inj I (.tup hq hl hi) (.tup hq' hl' hi')
        rw [← e, eqD_refl]
        exact EqAt.same _
      obtain ⟨its2, r2, p2, z2⟩ := I.tuple hq'
      rw [eqD]
      have l1 := r1.length
      have l2 := r2.length
      have res : eqDs ds es = ((List.range (min its.toArray.size its2.toArray.size)).all (fun j => eqD (ds.getD j .non) (es.getD j .non)) && its.toArray.size == its2.toArray.size) := by
        by_cases hlen : ds.length = es.length
        · have e1 : its.toArray.size = ds.length := by rw [List.size_toArray]; omega
          have e2 : its2.toArray.size = ds.length := by rw [List.size_toArray]; omega
          rw [e1, e2, Nat.min_self, eqDs_all hlen]; simp
        · rw [eqDs_len hlen]
          have : (its.toArray.size == its2.toArray.size) = false := beq_eq_false_iff_ne.mpr (by simp only [List.size_toArray]; omega)
          rw [this, Bool.and_false]
      rw [res]
      refine EqAt.of_refs hab (RcAt.tuples p1 p2 (by omega) fun j h1 h2 => ?_)
      have j1 : j < xs.length := by rw [List.size_toArray] at h1; omega
      have j2 : j < ys.length := by rw [List.size_toArray] at h2; omega
      obtain ⟨w1, e1, q1⟩ := r1.get (i := j) (x := xs[j]) (by simp)
      obtain ⟨w2, e2, q2⟩ := r2.get (i := j) (x := ys[j]) (by simp)
      have k1 : its.toArray[j] = w1 := by
        have : its[j]? = some its.toArray[j] := by simp
        rw [this] at e1; exact Option.some.inj e1
      have k2 : its2.toArray[j] = w2 := by
        have : its2[j]? = some its2.toArray[j] := by simp
        rw [this] at e2; exact Option.some.inj e2
      rw [k1, k2]
      have d1 : ds[j]? = some (ds.getD j .non) := by simp [List.getD, List.getElem?_eq_getElem (show j < ds.length by omega)]
      have d2 : es[j]? = some (es.getD j .non) := by simp [List.getD, List.getElem?_eq_getElem (show j < es.length by omega)]
      have hdj := dep_le d1
      refine ih j xs[j] _ (by simp) d1 (hi' j ys[j] _ (by simp) d2) q1 q2 ?_
      have : A.in1.units = A.units + 1 := rfl
      omega
end

/-! ### == and != of any data -/
def eqRef (K : PySem.W.Frag) (x y : V) (H : Hp) (P : Bool → Prop) : Prop := ∃ d e, Den K H x d ∧ Den K H y e ∧ dep d ≤ 60 ∧ P (eqD d e)
theorem eqRefT {K : PySem.W.Frag} {x y : V} {H : Hp} {P : Bool → Prop} {d : D} (h1 : Den K H x d) (h2 : Den K H y d) (hd : dep d ≤ 60) (g : P true) : eqRef K x y H P := ⟨d, d, h1, h2, hd, by rw [eqD_refl]; exact g⟩
def isRef : V → Bool
  | .ref _ => true
  | _ => false
def wEqA (K : PySem.W.Frag) : R2 := fun x y H Q => match eqS x y with | some b => Q (.bl b) H | none => eqRef K x y H fun b => Q (.bl b) H
def wNeA (K : PySem.W.Frag) : R2 := fun x y H Q => match eqS x y with | some b => Q (.bl (!b)) H | none => eqRef K x y H fun b => Q (.bl (!b)) H
section
variable {X : Cx} {K : PySem.W.Frag} {m : Nat}
theorem units_ok {d : D} (hr : Room m X.A) (hd : dep d ≤ 60) : X.A.units + dep d < cLine := by have := hr.un; omega
open PySem.SeqAt in
theorem w_eqA (hK : X.K = K) (hr : Room m X.A) : OpR X (compareOp .Eq) (wEqA K) := by
  subst hK
  intro pins s σ H x y v u Q I rx ry h
  unfold wEqA at h
  cases e : eqS x y with
  | some b =>
    rw [e] at h
    obtain ⟨h1, h2⟩ := eqS_is e
    exact op_eq pins s σ H x y v u Q I rx ry ⟨h1, by rw [h2]; exact h⟩
  | none =>
    rw [e] at h
    obtain ⟨d, e', h1, h2, hd, q⟩ := h
    have fin : EP X pins σ Q (.bool (eqD d e')) s := ⟨.bl _, H, I, rfl, q⟩
    have hu := units_ok (X := X) hr hd
    have hu0 : X.A.units < cLine := by omega
    -- the comparison itself: as in eqBool, without the look at the identity
    cases h1 with
    | @lst a xs ds hq hl hi =>
      have D1 : Den X.K H (.ref a) (.lst ds) := .lst hq hl hi
      cases rx
      obtain ⟨its, r1, p1, z1⟩ := I.list hq
      cases h2 with
      | non => cases ry; exact RcAt.list_none p1.isList hu0 _ _ _ _ fin
      | bl b => cases ry; exact RcAt.list_bool b p1.isList hu0 _ _ _ _ fin
      | int j => obtain ⟨t, rfl⟩ := ry; exact RcAt.list_int j t p1.isList hu0 _ _ _ _ fin
      | str z => obtain ⟨t, rfl⟩ := ry; exact RcAt.list_str z t p1.isList hu0 _ _ _ _ fin
      | tup hq' _ _ => cases ry; obtain ⟨_, _, p2, _⟩ := I.tuple hq'; exact RcAt.list_tuple p1.isList p2 hu0 _ _ _ _ fin
      | @lst b ys es hq' hl' hi' =>
        cases ry
        obtain ⟨its2, r2, p2, z2⟩ := I.list hq'
        have hd0 : dep (.lst ds) = deps ds + 1 := by rw [dep]
        rw [eqD] at fin
        have l1 := r1.length
        have l2 := r2.length
        by_cases hlen : ds.length = es.length
        · rw [← eqDs_all hlen, show ds.length = its.toArray.size by rw [List.size_toArray]; omega] at fin
          refine RcAt.lists p1.isList p2.isList (by simp only [List.size_toArray]; omega) hu0 (fun j g1 g2 => ?_) _ _ _ _ fin
          have j1 : j < xs.length := by rw [List.size_toArray] at g1; omega
          have j2 : j < ys.length := by rw [List.size_toArray] at g2; omega
          obtain ⟨w1, e1, q1⟩ := r1.get (i := j) (x := xs[j]) (by simp)
          obtain ⟨w2, e2, q2⟩ := r2.get (i := j) (x := ys[j]) (by simp)
          have k1 : its.toArray[j] = w1 := by
            have : its[j]? = some its.toArray[j] := by simp
            rw [this] at e1; exact Option.some.inj e1
          have k2 : its2.toArray[j] = w2 := by
            have : its2[j]? = some its2.toArray[j] := by simp
            rw [this] at e2; exact Option.some.inj e2
          rw [k1, k2]
          have d1 : ds[j]? = some (ds.getD j .non) := by simp [List.getD, List.getElem?_eq_getElem (show j < ds.length by omega)]
          have d2 : es[j]? = some (es.getD j .non) := by simp [List.getD, List.getElem?_eq_getElem (show j < es.length by omega)]
          have hdj := dep_le d1
          refine eqAt_den I (hi j xs[j] _ (by simp) d1) (hi' j ys[j] _ (by simp) d2) q1 q2 ?_
          have : X.A.in1.units = X.A.units + 1 := rfl
          omega
        · rw [eqDs_len hlen] at fin
          exact RcAt.lists_lengths p1.isList p2.isList (by simp only [List.size_toArray]; rw [bne_iff_ne]; omega) hu0 _ _ _ _ fin
    | @tup a xs ds hq hl hi =>
      cases rx
      obtain ⟨its, r1, p1, z1⟩ := I.tuple hq
      cases h2 with
      | non => cases ry; exact RcAt.tuple_none p1 hu0 _ _ _ _ fin
      | bl b => cases ry; exact RcAt.tuple_bool b p1 hu0 _ _ _ _ fin
      | int j => obtain ⟨t, rfl⟩ := ry; exact RcAt.tuple_int j t p1 hu0 _ _ _ _ fin
      | str z => obtain ⟨t, rfl⟩ := ry; exact RcAt.tuple_str z t p1 hu0 _ _ _ _ fin
      | lst hq' _ _ => cases ry; obtain ⟨_, _, p2, _⟩ := I.list hq'; exact RcAt.tuple_list p1 p2.isList hu0 _ _ _ _ fin
      | @tup b ys es hq' hl' hi' =>
        cases ry
        obtain ⟨its2, r2, p2, z2⟩ := I.tuple hq'
        have hd0 : dep (.tup ds) = deps ds + 1 := by rw [dep]
        rw [eqD] at fin
        have l1 := r1.length
        have l2 := r2.length
        have res : eqDs ds es = ((List.range (min its.toArray.size its2.toArray.size)).all (fun j => eqD (ds.getD j .non) (es.getD j .non)) && its.toArray.size == its2.toArray.size) := by
          by_cases hlen : ds.length = es.length
          · have e1 : its.toArray.size = ds.length := by rw [List.size_toArray]; omega
            have e2 : its2.toArray.size = ds.length := by rw [List.size_toArray]; omega
            rw [e1, e2, Nat.min_self, eqDs_all hlen]; simp
          · rw [eqDs_len hlen]
            have : (its.toArray.size == its2.toArray.size) = false := beq_eq_false_iff_ne.mpr (by simp only [List.size_toArray]; omega)
            rw [this, Bool.and_false]
        rw [res] at fin
        refine RcAt.tuples p1 p2 hu0 (fun j g1 g2 => ?_) _ _ _ _ fin
        have j1 : j < xs.length := by rw [List.size_toArray] at g1; omega
        have j2 : j < ys.length := by rw [List.size_toArray] at g2; omega
        obtain ⟨w1, e1, q1⟩ := r1.get (i := j) (x := xs[j]) (by simp)
        obtain ⟨w2, e2, q2⟩ := r2.get (i := j) (x := ys[j]) (by simp)
        have k1 : its.toArray[j] = w1 := by
          have : its[j]? = some its.toArray[j] := by simp
          rw [this] at e1; exact Option.some.inj e1
        have k2 : its2.toArray[j] = w2 := by
          have : its2[j]? = some its2.toArray[j] := by simp
          rw [this] at e2; exact Option.some.inj e2
        rw [k1, k2]
        have d1 : ds[j]? = some (ds.getD j .non) := by simp [List.getD, List.getElem?_eq_getElem (show j < ds.length by omega)]
        have d2 : es[j]? = some (es.getD j .non) := by simp [List.getD, List.getElem?_eq_getElem (show j < es.length by omega)]
        have hdj := dep_le d1
        refine eqAt_den I (hi j xs[j] _ (by simp) d1) (hi' j ys[j] _ (by simp) d2) q1 q2 ?_
        have : X.A.in1.units = X.A.units + 1 := rfl
        omega
    | non => cases h2 with
      | lst hq _ _ => cases rx; cases ry; obtain ⟨_, _, p, _⟩ := I.list hq; exact RcAt.none_list p.isList hu0 _ _ _ _ fin
      | tup hq _ _ => cases rx; cases ry; obtain ⟨_, _, p, _⟩ := I.tuple hq; exact RcAt.none_tuple p hu0 _ _ _ _ fin
      | _ => cases e
    | bl b => cases h2 with
      | lst hq _ _ => cases rx; cases ry; obtain ⟨_, _, p, _⟩ := I.list hq; exact RcAt.bool_list b p.isList hu0 _ _ _ _ fin
      | tup hq _ _ => cases rx; cases ry; obtain ⟨_, _, p, _⟩ := I.tuple hq; exact RcAt.bool_tuple b p hu0 _ _ _ _ fin
      | int j => cases rx; obtain ⟨t, rfl⟩ := ry; exact RcAt.bool_int b j t _ _ _ _ fin
      | _ => cases e
    | int i => cases h2 with
      | lst hq _ _ => obtain ⟨t, rfl⟩ := rx; cases ry; obtain ⟨_, _, p, _⟩ := I.list hq; exact RcAt.int_list i t p.isList hu0 _ _ _ _ fin
      | tup hq _ _ => obtain ⟨t, rfl⟩ := rx; cases ry; obtain ⟨_, _, p, _⟩ := I.tuple hq; exact RcAt.int_tuple i t p hu0 _ _ _ _ fin
      | bl b => obtain ⟨t, rfl⟩ := rx; cases ry; exact RcAt.int_bool i t b _ _ _ _ fin
      | _ => cases e
    | str z => cases h2 with
      | lst hq _ _ => obtain ⟨t, rfl⟩ := rx; cases ry; obtain ⟨_, _, p, _⟩ := I.list hq; exact RcAt.str_list z t p.isList hu0 _ _ _ _ fin
      | tup hq _ _ => obtain ⟨t, rfl⟩ := rx; cases ry; obtain ⟨_, _, p, _⟩ := I.tuple hq; exact RcAt.str_tuple z t p hu0 _ _ _ _ fin
      | _ => cases e
open PySem.SeqAt in
theorem w_neA (hK : X.K = K) (hr : Room m X.A) : OpR X (compareOp .NotEq) (wNeA K) := by
  subst hK
  intro pins s σ H x y v u Q I rx ry h
  unfold wNeA at h
  cases e : eqS x y with
  | some b =>
    rw [e] at h
    obtain ⟨h1, h2⟩ := eqS_is e
    exact op_ne pins s σ H x y v u Q I rx ry ⟨h1, by rw [h2]; exact h⟩
  | none =>
    rw [e] at h
    obtain ⟨d, e', h1, h2, hd, q⟩ := h
    have fin : EP X pins σ Q (.bool (!eqD d e')) s := ⟨.bl _, H, I, rfl, q⟩
    have hu := units_ok (X := X) hr hd
    have hu0 : X.A.units < cLine := by omega
    -- the comparison itself: as in eqBool, without the look at the identity
    cases h1 with
    | @lst a xs ds hq hl hi =>
      have D1 : Den X.K H (.ref a) (.lst ds) := .lst hq hl hi
      cases rx
      obtain ⟨its, r1, p1, z1⟩ := I.list hq
      cases h2 with
      | non => cases ry; exact RcNeAt.list_none p1.isList hu0 _ _ _ _ fin
      | bl b => cases ry; exact RcNeAt.list_bool b p1.isList hu0 _ _ _ _ fin
      | int j => obtain ⟨t, rfl⟩ := ry; exact RcNeAt.list_int j t p1.isList hu0 _ _ _ _ fin
      | str z => obtain ⟨t, rfl⟩ := ry; exact RcNeAt.list_str z t p1.isList hu0 _ _ _ _ fin
      | tup hq' _ _ => cases ry; obtain ⟨_, _, p2, _⟩ := I.tuple hq'; exact RcNeAt.list_tuple p1.isList p2 hu0 _ _ _ _ fin
      | @lst b ys es hq' hl' hi' =>
        cases ry
        obtain ⟨its2, r2, p2, z2⟩ := I.list hq'
        have hd0 : dep (.lst ds) = deps ds + 1 := by rw [dep]
        rw [eqD] at fin
        have l1 := r1.length
        have l2 := r2.length
        by_cases hlen : ds.length = es.length
        · rw [← eqDs_all hlen, show ds.length = its.toArray.size by rw [List.size_toArray]; omega] at fin
          refine RcNeAt.lists p1.isList p2.isList (by simp only [List.size_toArray]; omega) hu0 (fun j g1 g2 => ?_) _ _ _ _ fin
          have j1 : j < xs.length := by rw [List.size_toArray] at g1; omega
          have j2 : j < ys.length := by rw [List.size_toArray] at g2; omega
          obtain ⟨w1, e1, q1⟩ := r1.get (i := j) (x := xs[j]) (by simp)
          obtain ⟨w2, e2, q2⟩ := r2.get (i := j) (x := ys[j]) (by simp)
          have k1 : its.toArray[j] = w1 := by
            have : its[j]? = some its.toArray[j] := by simp
            rw [this] at e1; exact Option.some.inj e1
          have k2 : its2.toArray[j] = w2 := by
            have : its2[j]? = some its2.toArray[j] := by simp
            rw [this] at e2; exact Option.some.inj e2
          rw [k1, k2]
          have d1 : ds[j]? = some (ds.getD j .non) := by simp [List.getD, List.getElem?_eq_getElem (show j < ds.length by omega)]
          have d2 : es[j]? = some (es.getD j .non) := by simp [List.getD, List.getElem?_eq_getElem (show j < es.length by omega)]
          have hdj := dep_le d1
          refine eqAt_den I (hi j xs[j] _ (by simp) d1) (hi' j ys[j] _ (by simp) d2) q1 q2 ?_
          have : X.A.in1.units = X.A.units + 1 := rfl
          omega
        · rw [eqDs_len hlen] at fin
          exact RcNeAt.lists_lengths p1.isList p2.isList (by simp only [List.size_toArray]; rw [bne_iff_ne]; omega) hu0 _ _ _ _ fin
    | @tup a xs ds hq hl hi =>
      cases rx
      obtain ⟨its, r1, p1, z1⟩ := I.tuple hq
      cases h2 with
      | non => cases ry; exact RcNeAt.tuple_none p1 hu0 _ _ _ _ fin
      | bl b => cases ry; exact RcNeAt.tuple_bool b p1 hu0 _ _ _ _ fin
      | int j => obtain ⟨t, rfl⟩ := ry; exact RcNeAt.tuple_int j t p1 hu0 _ _ _ _ fin
      | str z => obtain ⟨t, rfl⟩ := ry; exact RcNeAt.tuple_str z t p1 hu0 _ _ _ _ fin
      | lst hq' _ _ => cases ry; obtain ⟨_, _, p2, _⟩ := I.list hq'; exact RcNeAt.tuple_list p1 p2.isList hu0 _ _ _ _ fin
      | @tup b ys es hq' hl' hi' =>
        cases ry
        obtain ⟨its2, r2, p2, z2⟩ := I.tuple hq'
        have hd0 : dep (.tup ds) = deps ds + 1 := by rw [dep]
        rw [eqD] at fin
        have l1 := r1.length
        have l2 := r2.length
        have res : eqDs ds es = ((List.range (min its.toArray.size its2.toArray.size)).all (fun j => eqD (ds.getD j .non) (es.getD j .non)) && its.toArray.size == its2.toArray.size) := by
          by_cases hlen : ds.length = es.length
          · have e1 : its.toArray.size = ds.length := by rw [List.size_toArray]; omega
            have e2 : its2.toArray.size = ds.length := by rw [List.size_toArray]; omega
            rw [e1, e2, Nat.min_self, eqDs_all hlen]; simp
          · rw [eqDs_len hlen]
            have : (its.toArray.size == its2.toArray.size) = false := beq_eq_false_iff_ne.mpr (by simp only [List.size_toArray]; omega)
            rw [this, Bool.and_false]
        rw [res] at fin
        refine RcNeAt.tuples p1 p2 hu0 (fun j g1 g2 => ?_) _ _ _ _ fin
        have j1 : j < xs.length := by rw [List.size_toArray] at g1; omega
        have j2 : j < ys.length := by rw [List.size_toArray] at g2; omega
        obtain ⟨w1, e1, q1⟩ := r1.get (i := j) (x := xs[j]) (by simp)
        obtain ⟨w2, e2, q2⟩ := r2.get (i := j) (x := ys[j]) (by simp)
        have k1 : its.toArray[j] = w1 := by
          have : its[j]? = some its.toArray[j] := by simp
          rw [this] at e1; exact Option.some.inj e1
        have k2 : its2.toArray[j] = w2 := by
          have : its2[j]? = some its2.toArray[j] := by simp
          rw [this] at e2; exact Option.some.inj e2
        rw [k1, k2]
        have d1 : ds[j]? = some (ds.getD j .non) := by simp [List.getD, List.getElem?_eq_getElem (show j < ds.length by omega)]
        have d2 : es[j]? = some (es.getD j .non) := by simp [List.getD, List.getElem?_eq_getElem (show j < es.length by omega)]
        have hdj := dep_le d1
        refine eqAt_den I (hi j xs[j] _ (by simp) d1) (hi' j ys[j] _ (by simp) d2) q1 q2 ?_
        have : X.A.in1.units = X.A.units + 1 := rfl
        omega
    | non => cases h2 with
      | lst hq _ _ => cases rx; cases ry; obtain ⟨_, _, p, _⟩ := I.list hq; exact RcNeAt.none_list p.isList hu0 _ _ _ _ fin
      | tup hq _ _ => cases rx; cases ry; obtain ⟨_, _, p, _⟩ := I.tuple hq; exact RcNeAt.none_tuple p hu0 _ _ _ _ fin
      | _ => cases e
    | bl b => cases h2 with
      | lst hq _ _ => cases rx; cases ry; obtain ⟨_, _, p, _⟩ := I.list hq; exact RcNeAt.bool_list b p.isList hu0 _ _ _ _ fin
      | tup hq _ _ => cases rx; cases ry; obtain ⟨_, _, p, _⟩ := I.tuple hq; exact RcNeAt.bool_tuple b p hu0 _ _ _ _ fin
      | int j => cases rx; obtain ⟨t, rfl⟩ := ry; exact RcNeAt.bool_int b j t _ _ _ _ fin
      | _ => cases e
    | int i => cases h2 with
      | lst hq _ _ => obtain ⟨t, rfl⟩ := rx; cases ry; obtain ⟨_, _, p, _⟩ := I.list hq; exact RcNeAt.int_list i t p.isList hu0 _ _ _ _ fin
      | tup hq _ _ => obtain ⟨t, rfl⟩ := rx; cases ry; obtain ⟨_, _, p, _⟩ := I.tuple hq; exact RcNeAt.int_tuple i t p hu0 _ _ _ _ fin
      | bl b => obtain ⟨t, rfl⟩ := rx; cases ry; exact RcNeAt.int_bool i t b _ _ _ _ fin
      | _ => cases e
    | str z => cases h2 with
      | lst hq _ _ => obtain ⟨t, rfl⟩ := rx; cases ry; obtain ⟨_, _, p, _⟩ := I.list hq; exact RcNeAt.str_list z t p.isList hu0 _ _ _ _ fin
      | tup hq _ _ => obtain ⟨t, rfl⟩ := rx; cases ry; obtain ⟨_, _, p, _⟩ := I.tuple hq; exact RcNeAt.str_tuple z t p hu0 _ _ _ _ fin
      | _ => cases e
end
end L2

set_option Elab.async false
set_option linter.all false
set_option maxRecDepth 100000
set_option maxHeartbeats 1000000
namespace L2
open PySem PySem.Spec PyProof.Rows

/-! ### an exception's object and its topmost traceback entry -/
structure XAt (h : Heap) (a T : Addr) (cls : Value) (dd : Option Addr) (fl : Value) : Prop where
  ex : ∃ oe vs oT ts, h.get? a = some oe ∧ oe.cls = cls ∧ oe.dict = dd ∧ oe.data = .fields vs ∧ vs[1]? = some (.ref T) ∧ vs[2]? = some .none ∧ T ≠ a ∧ h.get? T = some oT ∧ oT.data = .fields ts ∧ ts[3]? = some fl
/-- what passing a frame may change: the slots of the frames that run, the exception, its topmost entry -/
structure Pass (fs : List Addr) (ch : List Addr) (h h' : Heap) : Prop where
  keep : ∀ b o, b ∉ ch → b ∉ fs → h.get? b = some o → h'.get? b = some o
  slot : ∀ b o, b ∉ ch → h.get? b = some o → ∃ sl, h'.get? b = some { o with slots := sl }
theorem mapF_eq {o : Obj} {vs : Array Value} (hd : o.data = .fields vs) (f : Array Value → Array Value) : Obj.mapFields f o = { o with data := .fields (f vs) } := by
  obtain ⟨c, d, dt, sl⟩ := o
  cases hd
  rfl
section
variable {M : Model} {A : Around} {E : Value → Shared → Prop} {s : Shared}
/-- a new entry is laid and hung into the exception -/
theorem entry_new {base : Heap} {env : Env} {outer : List Env} {L e : Addr} {oe : Obj} {vs : Array Value} {head : Value} {hadNext : Bool} {Q : Unit → Shared → Prop}
    (hfr : A.frames = some (env :: outer)) (hl : s.heap.FunFrames base (env :: outer)) (hf : env.frame = some L) (he : s.heap.get? e = some oe) (hd : oe.data = .fields vs) (hsz : 1 < vs.size) (h2 : vs[2]? = some .none)
    (h : ∀ h' T, Pass (frs (env :: outer)) [e] s.heap h' → s.heap.get? T = none → XAt h' e T oe.cls oe.dict (rawInt L) → Q () { s with heap := h' }) :
    wpAny M A (do let a ← frameOf env; let pl ← entryPlaceOf L hadNext; let b ← EntryCells.newEntry head a .none (rawInt L) .none pl; setField (.ref e) 1 b) Q E s := by
  have hene : e ∉ (env :: outer).filterMap (·.frame) := fun hm => by
    obtain ⟨_, o, ho, hnf⟩ := hl.mem hm
    rw [he] at ho; cases ho; exact hnf vs hd
  refine wpAny_bind (wpAny_frameOf_fun hfr hl hf fun h₁ hs₁ => wpAny_bind (wpAny_entryPlaceOf fun pl hpl => ?_))
  unfold EntryCells.newEntry newFields
  refine wpAny_bind (wpAny_newObj_type ?_ (hpl.sizeOk5 _ _ _ _ _))
  have he₁ : h₁.get? e = some oe := (hs₁.2.1 e hene).trans he
  generalize ho : ({ cls := .type "traceback", dict := none, data := .fields ([head, .ref L, .none, rawInt L, .none] ++ (if pl.isEmpty then List.replicate 6 Value.none else pl)).toArray } : Obj) = o
  have hdo : o.data = .fields ([head, .ref L, .none, rawInt L, .none] ++ (if pl.isEmpty then List.replicate 6 Value.none else pl)).toArray := by rw [← ho]
  have hfo : o.isFreed = false := by rw [← ho]; rfl
  have he₂ := Heap.get?_push_of_some (h := h₁) o he₁
  refine wpAny_setField he₂ hd hsz ?_
  have hTe : h₁.objs.size ≠ e := Nat.ne_of_gt (Heap.lt_size he₁)
  have hd₃ := Obj.data_mapFields hd (·.setIfInBounds 1 (Value.ref h₁.objs.size))
  have he₃ := Heap.get?_update_self (Obj.mapFields (·.setIfInBounds 1 (Value.ref h₁.objs.size))) he₂ (Obj.isFreed_of_fields hd₃)
  have hT₃ := (Heap.get?_update_other (h₁.push o) (Obj.mapFields (·.setIfInBounds 1 (Value.ref h₁.objs.size))) (Ne.symm hTe)).trans (Heap.get?_push_size h₁ hfo)
  have keep : ∀ b u, b ≠ e → h₁.get? b = some u → ((h₁.push o).update e (Obj.mapFields (·.setIfInBounds 1 (Value.ref h₁.objs.size)))).get? b = some u := fun b u hbe hb => by
    rw [Heap.get?_update_other _ _ (Ne.symm hbe)]
    exact Heap.get?_push_of_some _ hb
  refine h _ h₁.objs.size ⟨fun b u hb hbf hbo => ?_, fun b u hb hbo => ?_⟩ (Heap.get?_none_of_le (by rw [hs₁.1]; exact Nat.le_refl _)) ⟨_, _, o, _, he₃, ?_, ?_, hd₃, by simp [hsz], by rw [Array.getElem?_setIfInBounds_ne (by decide)]; exact h2, hTe, hT₃, hdo, ?_⟩
  · exact keep b u (fun z => hb (by simp [z])) ((hs₁.2.1 b hbf).trans hbo)
  · obtain ⟨sl, hs⟩ := hs₁.2.2 b u hbo
    exact ⟨sl, keep b _ (fun z => hb (by simp [z])) hs⟩
  · exact Obj.cls_mapFields _ _
  · rw [mapF_eq hd]
  · first | (simp; done) | (rcases hpl with rfl | ⟨_, _, _, _, _, _, _, rfl⟩ <;> simp)
/-- the flight's mark is put -/
theorem flight_put {a T : Addr} {cls fl : Value} {dd : Option Addr} {f : Option Addr} {Q : Unit → Shared → Prop} (x : XAt s.heap a T cls dd fl)
    (h : ∀ h', Pass [] [T] s.heap h' → XAt h' a T cls dd (f.elim .none fun f => rawInt f) → Q () { s with heap := h' }) : wpAny M A (setFlight (.ref a) f) Q E s := by
  obtain ⟨oe, vs, oT, ts, h1, h2, h3, h4, h5, h5', h6, h7, h8, h9⟩ := x.ex
  have hsz : 3 < ts.size := (Array.getElem?_eq_some_iff.mp h9).1
  unfold setFlight
  refine wpAny_bind (wpAny_field h1 h4 h5 ?_)
  rw [if_pos (show (Value.ref T != Value.none) = true from by simp)]
  have other : ∀ b, b ≠ T → ∀ g, (s.heap.update T g).get? b = s.heap.get? b := fun b hb g => Heap.get?_update_other _ _ (Ne.symm hb)
  refine wpAny_setField h7 h8 hsz (h _ ⟨fun b o hb _ hbo => (other b (fun z => hb (by simp [z])) _).trans hbo, fun b o hb hbo => ⟨o.slots, (other b (fun z => hb (by simp [z])) _).trans hbo⟩⟩ ?_)
  exact ⟨oe, vs, _, _, (other a (Ne.symm h6) _).trans h1, h2, h3, h4, h5, h5', h6, Heap.get?_update_self _ h7 (Obj.isFreed_of_fields (Obj.data_mapFields h8 _)), Obj.data_mapFields h8 _, by simp [hsz]⟩
end
end L2

set_option Elab.async false
set_option linter.all false
set_option maxRecDepth 100000
set_option maxHeartbeats 1000000
namespace L2
open PySem PySem.Spec PyProof.Rows

theorem Pass.more {fs fs' ch : List Addr} {h h1 : Heap} (a : Pass fs ch h h1) (hs : ∀ b ∈ fs, b ∈ fs') : Pass fs' ch h h1 := ⟨fun b o hb hf e => a.keep b o hb (fun z => hf (hs b z)) e, a.slot⟩
/-- a record of ours that is not tracked -/
def Nw (X : Cx) (pins : List (Addr × Obj)) (H : Hp) (b : Addr) : Prop := H b = none ∧ b ≠ X.env.locals ∧ b ∉ X.fs ∧ (b ∈ X.ex ∨ X.s₀.heap.get? b = none) ∧ (∀ x c, X.env.cells.lookup x = some c → c ≠ b) ∧ ∀ p ∈ X.pn ++ pins, p.1 ≠ b
theorem ObjOk.here {P : Program} {w : World} {H : Hp} {h : Heap} {a : Addr} {o : HO} (x : ObjOk P w H h a o) : ∃ u, h.get? a = some u := by
  cases o with
  | lst xs => obtain ⟨_, _, _, _, e⟩ := x; exact ⟨_, e⟩
  | tup xs => obtain ⟨_, _, _, o, e, _⟩ := x; exact ⟨_, e⟩
  | dK kvs => obtain ⟨_, _, _, _, o, _, _, e, _⟩ := x; exact ⟨_, e⟩
  | dT kvs => obtain ⟨_, _, _, _, o, _, _, e, _⟩ := x; exact ⟨_, e⟩
  | set S n => obtain ⟨o, _, _, _, e, _⟩ := x; exact ⟨_, e⟩
  | ins C dx fs => obtain ⟨_, _, _, e, _⟩ := x; exact ⟨_, e⟩
  | own y => obtain ⟨_, e⟩ := x; exact ⟨_, e⟩
  | xd fs => obtain ⟨_, ⟨_, _, _, e, _⟩, _⟩ := x; exact ⟨_, e⟩
  | rng lo hi => obtain ⟨_, _, _, e⟩ := x; exact ⟨_, e⟩
  | frz ob u => obtain ⟨e, _⟩ := x; exact ⟨_, e⟩
  | tbl ps => exact ⟨_, show h.get? a = some _ from x⟩
  | met f y => exact ⟨_, show h.get? a = some _ from x⟩
  | ext φ => obtain ⟨_, e, _⟩ := x; exact e
theorem HOk.none_of {P : Program} {w : World} {H : Hp} {h : Heap} {a : Addr} (x : HOk P w H h) (e : h.get? a = none) : H a = none := by
  cases q : H a with
  | none => rfl
  | some o => obtain ⟨u, z⟩ := (x a o q).here; rw [e] at z; cases z
section
variable {X : Cx} {pins : List (Addr × Obj)} {σ : St} {H : Hp} {s : Shared}
theorem Inv.nw {H' : Hp} {b : Addr} (I : Inv X pins σ H s) (hb : s.heap.get? b = none) (hn : H' b = none) : Nw X pins H' b := by
  refine ⟨hn, fun z => ?_, fun z => ?_, ?_, fun x c e z => ?_, fun p hp z => ?_⟩
  · obtain ⟨m, ⟨o, _, _, ho, _⟩, _⟩ := I.loc
    rw [← z, hb] at ho; cases ho
  · obtain ⟨_, o, ho, _⟩ := I.funs.mem z
    rw [hb] at ho; cases ho
  · by_cases hx : b ∈ X.ex
    · exact .inl hx
    · refine .inr ?_
      cases q : X.s₀.heap.get? b with
      | none => rfl
      | some o => obtain ⟨o', e⟩ := I.base.there b o q hx; rw [hb] at e; cases e
  · obtain ⟨v, o, ho, _⟩ := I.cell x c e
    rw [z, hb] at ho; cases ho
  · have e := (I.pin p hp).1
    rw [z, hb] at e; cases e
/-- the state is as it was when the frames' slots and untracked records of ours have changed -/
theorem Inv.pass {ch : List Addr} {h' : Heap} (I : Inv X pins σ H s) (p : Pass (frs X.stack) ch s.heap h') (hc : ∀ b ∈ ch, Nw X pins H b) : Inv X pins σ H { s with heap := h' } := by
  have nch : ∀ b u, H b = some u → b ∉ ch := fun b u e z => by rw [(hc b z).1] at e; cases e
  have nfr : ∀ b u, H b = some u → b ∉ frs X.stack := fun b u e z => by rw [I.stkFree b z] at e; cases e
  have neC : ∀ b o, X.s₀.heap.get? b = some o → b ∉ X.ex → b ∉ ch := fun b o e hx hb => by
    rcases (hc b hb).2.2.2.1 with z | z
    · exact hx z
    · rw [e] at z; cases z
  have neL : ∀ b o, X.s₀.heap.get? b = some o → b ≠ X.env.locals := fun b o e => Nat.ne_of_lt (Nat.lt_of_lt_of_le (Heap.lt_size e) I.ok.above)
  have nst : ∀ b o, X.s₀.heap.get? b = some o → b ∉ X.fs → b ∉ frs X.stack := fun b o e hb z => by
    rcases List.mem_cons.mp (I.stkSub b z) with q | q
    · exact neL b o e q
    · exact hb q
  have lch : X.env.locals ∉ ch := fun z => (hc _ z).2.1 rfl
  have cch : ∀ x c, X.env.cells.lookup x = some c → c ∉ ch := fun x c e z => (hc c z).2.2.2.2.1 x c e rfl
  have cellK : ∀ x c, X.env.cells.lookup x = some c → ∀ v, s.heap.IsCell c v → h'.IsCell c v := fun x c e v ⟨o, ho, hd⟩ => by
    obtain ⟨sl, q⟩ := p.slot c o (cch x c e) ho
    exact ⟨_, q, hd⟩
  refine ⟨I.ok, I.os, I.bare, ⟨fun b o e n hb hx => ?_, fun b o e n hb hx => ?_, I.base.free, fun b o e hx => ?_, I.base.tups, I.base.frzs, I.base.tbls⟩, ?_, fun x c e => ?_, I.free, I.freeC, fun q hq => ?_, fun b u e => ?_, I.len⟩
  · exact p.keep b o (neC b o e hx) (nst b o e hb) (I.base.keep b o e n hb hx)
  · obtain ⟨sl, e1⟩ := I.base.slot b o e n hb hx
    obtain ⟨sl', e2⟩ := p.slot b _ (neC b o e hx) e1
    exact ⟨sl', e2⟩
  · obtain ⟨o', e1⟩ := I.base.there b o e hx
    obtain ⟨sl', e2⟩ := p.slot b _ (neC b o e hx) e1
    exact ⟨_, e2⟩
  · obtain ⟨m, ⟨o, es, ep, ho, r⟩, hl⟩ := I.loc
    obtain ⟨sl, hL⟩ := p.slot _ o lch ho
    refine ⟨m, ⟨_, es, ep, hL, r⟩, fun i x v e1 e2 e3 => ?_⟩
    obtain ⟨u, rv, l⟩ := hl i x v e1 e2 e3
    refine ⟨u, rv, ?_⟩
    rcases l with l | ⟨k, c, e, z⟩
    · exact .inl l
    · exact .inr ⟨k, c, e, cellK x c e _ z⟩
  · obtain ⟨v, z⟩ := I.cell x c e
    exact ⟨v, cellK x c e v z⟩
  · obtain ⟨e, n, ne, nf, d⟩ := I.pin q hq
    refine ⟨p.keep q.1 q.2 (fun z => (hc _ z).2.2.2.2.2 q hq rfl) (fun z => ?_) e, n, ne, nf, d⟩
    rcases List.mem_cons.mp (I.stkSub _ z) with y | y
    · exact ne y
    · exact nf y
  · refine (I.hok b u e).stay (fun c v hcv q => p.keep c v ?_ ?_ q) (fun _ q => q) fun _ _ q => q
    · rcases hcv with z | z
      · rw [z]; exact nch b u e
      · exact nch c _ z
    · rcases hcv with z | z
      · rw [z]; exact nfr b u e
      · exact nfr c _ z

/-- an exception in a body: just made, or come out of a call, or marked as this frame's -/
def XSt (X : Cx) (pins : List (Addr × Obj)) (H : Hp) (h : Heap) (a : Addr) (cls : Value) (dd : Option Addr) : Prop := Nw X pins H a ∧
  ((∃ oe vs, h.get? a = some oe ∧ oe.cls = cls ∧ oe.dict = dd ∧ oe.data = .fields vs ∧ vs[1]? = some .none ∧ vs[2]? = some .none) ∨ ∃ T fl, XAt h a T cls dd fl ∧ Nw X pins H T ∧ (fl = .none ∨ ∃ L, X.env.frame = some L ∧ fl = rawInt L))

theorem note_any {A : Around} {M : Model} {E : Value → Shared → Prop} {a : Addr} {cls : Value} {dd : Option Addr} {Q : Unit → Shared → Prop} {L : Addr} (I : Inv X pins σ H s) (x : XSt X pins H s.heap a cls dd)
    (hA : A.frames = some X.stack) (hst : X.stack = X.env :: X.outer) (hf : X.env.frame = some L)
    (h : ∀ h' T, Inv X pins σ H { s with heap := h' } → Nw X pins H T → XAt h' a T cls dd (rawInt L) → Q () { s with heap := h' }) : wpAny M A (noteFrame (.ref a) X.env) Q E s := by
  obtain ⟨fa, x⟩ := x
  have hfr : A.frames = some (X.env :: X.outer) := by rw [← hst]; exact hA
  have hl : s.heap.FunFrames X.base (X.env :: X.outer) := by rw [← hst]; exact I.stack
  unfold noteFrame
  simp only [hf]
  rcases x with ⟨oe, vs, h1, h2, h3, h4, h5, h5'⟩ | ⟨T, fl, x, fT, hfl⟩
  · refine wpAny_bind (wpAny_field h1 h4 h5 ?_)
    rw [if_neg (by decide)]
    refine entry_new hfr hl hf h1 h4 (Array.getElem?_eq_some_iff.mp h5).1 h5' fun h' T p hT x => ?_
    rw [← hst] at p
    have J := I.pass p (by simpa using fa)
    exact h h' T J (I.nw hT (I.hok.none_of hT)) (by rw [← h2, ← h3]; exact x)
  · obtain ⟨oe, vs, oT, ts, h1, h2, h3, h4, h5, h5', h6, h7, h8, h9⟩ := id x.ex
    refine wpAny_bind (wpAny_field h1 h4 h5 ?_)
    rw [if_pos (show (Value.ref T != Value.none) = true from by simp)]
    refine wpAny_bind (wpAny_field h7 h8 h9 ?_)
    rcases hfl with rfl | ⟨L', hL', rfl⟩
    · rw [if_neg (show ¬ ((Value.none == rawInt L) = true) from by simp [rawInt])]
      have hsz : 3 < ts.size := (Array.getElem?_eq_some_iff.mp h9).1
      refine wpAny_bind (wpAny_setField h7 h8 hsz ?_)
      have other : ∀ b, b ≠ T → ∀ g, (s.heap.update T g).get? b = s.heap.get? b := fun b hb g => Heap.get?_update_other _ _ (Ne.symm hb)
      have p1 : Pass (frs X.stack) [T] s.heap (s.heap.update T (Obj.mapFields (·.setIfInBounds 3 Value.none))) :=
        ⟨fun b o hb _ hbo => (other b (fun z => hb (by simp [z])) _).trans hbo, fun b o hb hbo => ⟨o.slots, (other b (fun z => hb (by simp [z])) _).trans hbo⟩⟩
      have J1 := I.pass p1 (by simpa using fT)
      refine entry_new (s := { s with heap := s.heap.update T (Obj.mapFields (·.setIfInBounds 3 Value.none)) }) hfr (base := X.base) (by rw [← hst]; exact J1.stack) hf ((other a (Ne.symm h6) _).trans h1) h4 (Array.getElem?_eq_some_iff.mp h5).1 h5' fun h' T' p hT x' => ?_
      rw [← hst] at p
      have J := J1.pass p (by simpa using fa)
      exact h h' T' J (J1.nw hT (J1.hok.none_of hT)) (by rw [← h2, ← h3]; exact x')
    · rw [hf] at hL'; cases hL'
      rw [if_pos (show (rawInt L == rawInt L) = true from by simp)]
      exact wpAny_pure (h s.heap T I fT x)

/-- it leaves the frame -/
theorem leave_any {A : Around} {M : Model} {E : Value → Shared → Prop} {a : Addr} {cls : Value} {dd : Option Addr} {Q : Unit → Shared → Prop} {L : Addr} (I : Inv X pins σ H s) (x : XSt X pins H s.heap a cls dd)
    (hA : A.frames = some X.stack) (hst : X.stack = X.env :: X.outer) (hf : X.env.frame = some L)
    (h : ∀ h' T, Inv X pins σ H { s with heap := h' } → Nw X pins H T → XAt h' a T cls dd .none → Q () { s with heap := h' }) : wpAny M A (leaving X.env (.ref a)) Q E s := by
  unfold leaving
  refine wpAny_bind (note_any I x hA hst hf fun h1 T J fT x1 => flight_put (s := { s with heap := h1 }) x1 fun h2 p x2 => ?_)
  exact h h2 T (J.pass (p.more fun _ z => nomatch z) (by simpa using fT)) fT x2
end

/-! ### behind a call -/
def CXE (P : Program) (w : World) : CXT := fun outer H s E e s' => ∃ (a T : Addr) (cls : Value) (dd : Option Addr) (H' : Hp), e = .ref a ∧ s'.os = s.os ∧ AllBare s'.gens ∧ Un (frs outer) [] H H' s.heap s'.heap ∧ HOk P w H' s'.heap ∧
  s.heap.get? a = none ∧ s.heap.get? T = none ∧ H' a = none ∧ H' T = none ∧ XAt s'.heap a T cls dd .none ∧ E cls dd H'
/-- exceptions of which E holds may leave the code of X -/
def Fl (X : Cx) (E : XK) : Prop := ∀ (pins : List (Addr × Obj)) (σ : St) (H : Hp) (s : Shared) (a : Addr) (cls : Value) (dd : Option Addr), Inv X pins σ H s → XSt X pins H s.heap a cls dd → E cls dd H → X.xe (.ref a) s
theorem Inv.afterE {X : Cx} {pins : List (Addr × Obj)} {σ : St} {H : Hp} {s s' : Shared} {E : XK} {e : Value} (I : Inv X pins σ H s) (h : CXE X.prog X.w X.stack H s E e s') :
    ∃ a cls dd H', e = .ref a ∧ Inv X pins σ H' s' ∧ XSt X pins H' s'.heap a cls dd ∧ E cls dd H' := by
  obtain ⟨a, T, cls, dd, H', rfl, os, bare, un, hok, ha, hT, na, nT, x, q⟩ := h
  refine ⟨a, cls, dd, H', rfl, I.call' os un hok bare (fun b z => nomatch z), ⟨I.nw ha na, .inr ⟨T, _, x, I.nw hT nT, .inl rfl⟩⟩, q⟩
theorem Fl.passes {X : Cx} {E : XK} (f : Fl X E) : Passes (CXE X.prog X.w) X E := fun pins σ H s e s' I h => by
  obtain ⟨a, cls, dd, H', rfl, J, x, q⟩ := I.afterE h
  exact f pins σ H' s' a cls dd J x q
section
variable {P : Program} {w : World} {K : PySem.W.Frag} {mg : Str → Option Value} {base : Heap} {N : List Str} {qual : Str} {scope : Scope} {f : Addr} {cd : Value} {A : Around} {outer : List Env} {s : Shared} {H : Hp} {E : XK}
theorem fl_body : Fl (cxOf (CXE P w) P w K mg base N qual scope f cd A outer s H E) E := by
  intro pins σ H' s' a cls dd I x q
  show wpAny _ _ _ _ _ _
  refine leave_any I x I.ok.frames rfl rfl fun h' T J fT x' => ?_
  have fa := x.1
  refine ⟨a, T, cls, dd, H', rfl, J.os, J.bare, J.base, J.hok, ?_, ?_, fa.1, fT.1, x', q⟩
  · rcases fa.2.2.2.1 with z | z
    · exact absurd (show a ∈ ([] : List Addr) from z) (by simp)
    · exact z
  · rcases fT.2.2.2.1 with z | z
    · exact absurd (show T ∈ ([] : List Addr) from z) (by simp)
    · exact z
theorem own_body : PassesOwn (model P w) (cxOf (CXE P w) P w K mg base N qual scope f cd A outer s H E).A (cxOf (CXE P w) P w K mg base N qual scope f cd A outer s H E).env (cxOf (CXE P w) P w K mg base N qual scope f cd A outer s H E).xe := by
  intro e s' h
  have h' : wpAny (model P w) (A.deeper (envOfC qual scope s.heap.objs.size f cd)) (leaving (envOfC qual scope s.heap.objs.size f cd) e) (fun _ s'' => CXE P w outer H s E e s'') (fun e' s'' => CXE P w outer H s E e' s'') s' := h
  exact PassesOwn.leaving (Q₁ := fun e s'' => CXE P w outer H s E e s'') (E₁ := fun e' s'' => CXE P w outer H s E e' s'') e s' h'
end
/-- a def whose exceptions are told -/
theorem Fun.okX {P : Program} {w : World} {K : PySem.W.Frag} {mg : Str → Option Value} {base : Heap} {x qual : Str} {st : Stmt} {f : Addr} {fd : FuncData} {N ps : List Str} {k : Nat} {sp : Sp} (F : Fun K x qual st f fd) (S : FnScope N ps (defScope st)) (len : ∀ vs H Q E, sp vs H Q E → vs.length = ps.length)
    (hbody : ∀ (cdv : Value) (A : Around) (outer : List Env) (s : Shared) (H : Hp) (vs : List V) (Q : VK) (E : XK), Room k (A.deeper (envOfC qual (defScope st) s.heap.objs.size f cdv)) → sp vs H Q E →
      ∃ t, PSs (cxOf (CXE P w) P w K mg base N qual (defScope st) f cdv A outer s H E) (defBody st) t ∧ t { nx := fun _ H' => Q .non H', rt := Q } (start N vs) H) : FnOk P w K mg base (CXE P w) (k + 1) f fd ps sp := by
  obtain ⟨oc, od, kV, doc, pm, an, cdv, ct, osl, rfl, lk, hcd⟩ := F.ex
  exact fn_of lk hcd S len fun A outer s H vs Q E hr hsp => hbody cdv A outer s H vs Q E hr hsp
/-- .. that may be called -/
structure CalX (P : Program) (w : World) (K : PySem.W.Frag) (mg : Str → Option Value) (base : Heap) (n : Nat) (x : Str) (ps : List Str) (sp : Sp) : Prop where
  ex : ∃ f fd, FnOk P w K mg base (CXE P w) n f fd ps sp ∧ Binds K fd ps [] ∧ PySem.W.keepIn K (.ref f) = true ∧ mg x = some (.ref f)
section
variable {X : Cx} {x : Str} {p pos : Pos} {e : Expr} {es : List Expr} {t : TA} {ps : List Str} {sp : Sp} {n m : Nat} {E : XK}
theorem pe_fnX (fl : Fl X E) (c : CalX X.prog X.w X.K X.mg X.base n x ps sp) (hr : Room m X.A) (hn : n ≤ m) (hg : Gl X x) (ha : PA X (e :: es) t) (hdb : (x == ("__debug__" : Str)) = false := by decide)
    (hp : plainAll (e :: es) = true := by rfl) : PE X (.Call (.Name x p) (e :: es) [] pos) (tCall sp [] E t) := by
  obtain ⟨f, fd, F, b, k, hm⟩ := c.ex
  have h' : (notStar e && plainAll es) = true := hp
  rw [Bool.and_eq_true] at h'
  exact pe_call (F.mono hn) hr hg hm k b .nil fl.passes ha hdb (starEach_c h'.1) (plain_any h'.2)
end

/-! ### raise C(..), C an own class without __init__ -/
theorem exc_obj {K : PySem.W.Frag} {h : Heap} {C : Addr} {bmB : List Value} {newId : String} (X : K.In h) (q : PySem.W.excIn K C bmB newId = true) :
    ∃ bm N nm q bs hdct sn sub ab col dd k0 k1 k2 k3 k5 mN, h.get? C = some (excClassObj nm q C N bs bm hdct sn sub ab col dd k0 k1 k2 k3 k5 newId) ∧ h.Ns N mN ∧ mN "__init__" = none ∧ OwnTail h bmB bm := by
  unfold PySem.W.excIn at q
  split at q
  case h_2 => cases q
  case h_1 dd cd sl ho =>
    split at q
    case h_2 => cases q
    case h_1 C' bm k0 k1 k2 k3 n k5 hm hs =>
      simp only [Bool.and_eq_true, beq_iff_eq, Bool.not_eq_true'] at q
      obtain ⟨⟨⟨⟨⟨e1, e2⟩, hdel⟩, ht⟩, hok⟩, hni⟩ := q
      subst e1 e2
      obtain ⟨nm, bs, mro, ns, qn, hd, sn, sub, ab, col, del⟩ := cd
      dsimp only at hm hdel hok hni
      subst hm hdel
      obtain ⟨l⟩ := sl
      simp only at hs
      subst hs
      exact ⟨bm, ns, nm, qn, bs, hd, sn, sub, ab, col, dd, k0, k1, k2, k3, k5, _, X _ _ ho, .of_isNs (PySem.W.isNs_of_in X hok), PySem.W.nsMap_none_of_in X hok hni, PySem.W.tail_of_in X ht⟩
def tRaise (C : Addr) (E : XK) (t : TA) : TS := fun _ σ H => t σ H fun vs H1 => vs.length ≤ sizeLine ∧ E (.ref C) none H1
section
variable {X : Cx} {C : Addr} {bmB : List Value} {B newId initId : String} {x : Str} {np cpos pos : Pos} {e : Expr} {es : List Expr} {t : TA} {E : XK}
theorem Inv.made' {pins : List (Addr × Obj)} {σ : St} {H : Hp} {s : Shared} {h' : Heap} {a : Addr} {vs : List Value} (I : Inv X pins σ H s) (m : Heap.MadeExcOf s.heap h' a (.ref C) vs) :
    Inv X pins σ H { s with heap := h' } ∧ XSt X pins H h' a (.ref C) none := by
  obtain ⟨t, h1, _⟩ := m.there
  exact ⟨I.kept (t' := s.toks) m.keeps, I.nw m.new (I.hok.none_of m.new), .inl ⟨_, _, h1, rfl, rfl, rfl, rfl, rfl⟩⟩
theorem ps_raise (fl : Fl X E) (hc : X.calm = true) (O : PySem.W.excIn X.K C bmB newId = true) (FB : ExcBaseFacts B newId initId bmB) (hg : Gl X x) (hm : X.mg x = some (.ref C)) (ha : PA X (e :: es) t)
    (hp : plainAll (e :: es) = true := by rfl) (hdb : (x == ("__debug__" : Str)) = false := by decide) : PS X (.Raise (some (.Call (.Name x np) (e :: es) [] cpos)) none pos) (tRaise C E t) := by
  intro pins s σ H D I h
  have h' : (notStar e && plainAll es) = true := hp
  rw [Bool.and_eq_true] at h'
  have he := starEach_c (env := X.env) (es := es) h'.1
  have hpl : (backTo cpos (starEach es X.env)).any (·.1) = false := plain_any h'.2
  obtain ⟨bm, N, nm, q, bs, hdct, sn, sub, ab, col, dd, k0, k1, k2, k3, k5, mN, hC, hN, hni, T⟩ := exc_obj I.ok.mod.kin O
  refine wpAny_Raise_call_subT (C := C) (nm := nm) (q := q) (N := N) (bs := bs) (bm := bm) (hdct := hdct) (sn := sn) (sub := sub) (ab := ab) (col := col) (dd := dd) (k0 := k0) (k1 := k1) (k2 := k2) (k3 := k3) (k5 := k5)
    FB (mN := mN) (T.hasType FB.hasBase) (I.ok.hd hc) (by rw [he]; show (false || (backTo cpos (starEach es X.env)).any (·.1)) = false; rw [hpl]; rfl) hni (ld_glob I hg hm ⟨rfl, ?_⟩ hdb)
  have hA := ha cpos pins s σ H _ I h
  rw [he] at hA ⊢
  refine Calls.evalArgs_plain (thn hA fun us s2 ⟨vs, H2, I2, r, z, q2⟩ => ⟨rfl, by rw [← r.length]; exact z, I2.bk _ _ hC, hN.keeps I2.bk, T.keeps I2.bk, fun h' a m => ?_⟩)
  obtain ⟨J, x⟩ := I2.made' m
  exact fl pins σ H2 _ a _ _ J x q2
end
end L2

set_option Elab.async false
set_option linter.all false
set_option maxRecDepth 100000
set_option maxHeartbeats 1000000
namespace L2
open PySem PySem.Spec PyProof.Rows

/-! ### which class catches -/
theorem exc_obj2 {K : PySem.W.Frag} {h : Heap} {C : Addr} {bmB : List Value} {newId : String} (X : K.In h) (q : PySem.W.excIn K C bmB newId = true) :
    ∃ bm N nm q bs hdct sn sub ab col dd k0 k1 k2 k3 k5, h.get? C = some (excClassObj nm q C N bs bm hdct sn sub ab col dd k0 k1 k2 k3 k5 newId) ∧ OwnTail h bmB bm ∧ ∀ v b, PySem.W.mroIn K C v = some b → (Value.ref C :: bm).contains v = b := by
  unfold PySem.W.excIn at q
  split at q
  case h_2 => cases q
  case h_1 dd cd sl ho =>
    split at q
    case h_2 => cases q
    case h_1 C' bm k0 k1 k2 k3 n k5 hm hs =>
      simp only [Bool.and_eq_true, beq_iff_eq, Bool.not_eq_true'] at q
      obtain ⟨⟨⟨⟨⟨e1, e2⟩, hdel⟩, ht⟩, hok⟩, hni⟩ := q
      subst e1 e2
      obtain ⟨nm, bs, mro, ns, qn, hd, sn, sub, ab, col, del⟩ := cd
      dsimp only at hm hdel hok hni
      subst hm hdel
      obtain ⟨l⟩ := sl
      simp only at hs
      subst hs
      refine ⟨bm, ns, nm, qn, bs, hd, sn, sub, ab, col, dd, k0, k1, k2, k3, k5, X _ _ ho, PySem.W.tail_of_in X ht, fun v b e => ?_⟩
      unfold PySem.W.mroIn PySem.W.clsIn at e
      rw [ho] at e
      simpa using e
section
variable {M : Model} {A : Around} {E : Value → Shared → Prop}
variable {nm q nm' q' : Str} {C N C' N' : Addr} {bs bm bs' bm' : List Value} {hdct hdct' : Bool} {sn sn' : List Str} {sub sub' : List Value} {ab ab' : Bool} {col col' : Option Bool} {dd dd' : Option Addr} {k0 k1 k2 k3 k5 l0 l1 l2 l3 l5 : Option Value} {newId newId' : String}
theorem exc_matches {s : Shared} {e : Addr} {oe : Obj} {b : Bool} {Q : Bool → Shared → Prop}
    (hC : s.heap.get? C = some (excClassObj nm q C N bs bm hdct sn sub ab col dd k0 k1 k2 k3 k5 newId)) (hD : s.heap.get? C' = some (excClassObj nm' q' C' N' bs' bm' hdct' sn' sub' ab' col' dd' l0 l1 l2 l3 l5 newId'))
    (he : s.heap.get? e = some oe) (hcls : oe.cls = .ref C') (hcB : (Value.ref C :: bm).contains (.type "BaseException") = true) (hb : (Value.ref C' :: bm').contains (.ref C) = b)
    (hq : Q b s) : wpAny M A (excMatches (.ref e) (.ref C)) Q E s := by
  obtain ⟨h, g, d, t, os⟩ := s
  have f := tc_notTuple
  unfold excMatches
  repeat (first | (with_reducible refine wpAny_loadPart_at he ?_; rw [hcls]) | with_reducible refine wpAny_loadPart_at hC ?_ | (with_reducible refine wpAny_isSubtype_exc hC ?_; rw [hcB]) | (with_reducible refine wpAny_isSubtype_exc hD ?_; rw [hb]) | wp_step)
  cases b <;> (wp_walk; exact hq)
end
/-- the class cls is told under C; both are own classes of exceptions without __init__ -/
structure Exc0 (K : PySem.W.Frag) (C : Addr) : Prop where
  ex : ∃ bmB newId, PySem.W.excIn K C bmB newId = true ∧ bmB.contains (.type "BaseException") = true
def Catches (K : PySem.W.Frag) (cls : Value) (C : Addr) (b : Bool) : Prop := ∃ D, cls = .ref D ∧ Exc0 K D ∧ PySem.W.mroIn K D (.ref C) = some b
theorem catch_ok {K : PySem.W.Frag} {M : Model} {A : Around} {E : Value → Shared → Prop} {s : Shared} {C a : Addr} {cls : Value} {oe : Obj} {b : Bool} {Q : Bool → Shared → Prop} (X : K.In s.heap) (hC : Exc0 K C) (c : Catches K cls C b)
    (he : s.heap.get? a = some oe) (hcls : oe.cls = cls) (hq : Q b s) : wpAny M A (excMatches (.ref a) (.ref C)) Q E s := by
  obtain ⟨D, rfl, hD, hm⟩ := c
  obtain ⟨bmB, newId, q1, hbase⟩ := hC.ex
  obtain ⟨bmB', newId', q2, _⟩ := hD.ex
  obtain ⟨bm, N, nm, q, bs, hdct, sn, sub, ab, col, dd, k0, k1, k2, k3, k5, hC1, T, _⟩ := exc_obj2 X q1
  obtain ⟨bm', N', nm', q', bs', hdct', sn', sub', ab', col', dd', l0, l1, l2, l3, l5, hD1, _, hmro⟩ := exc_obj2 X q2
  exact exc_matches hC1 hD1 he hcls (by rw [List.contains_cons, T.hasType hbase, Bool.or_true]) (hmro _ _ hm) hq

/-! ### in an except suite -/
def Cx.mk' (X : Cx) (a : Addr) : Cx := { X with A := X.A.mark (some (.ref a)), calm := false, xe := fun _ _ => False }
section
variable {X : Cx} {pins : List (Addr × Obj)} {σ : St} {H : Hp} {s : Shared} {a : Addr}
theorem Inv.mark (I : Inv X pins σ H s) : Inv (X.mk' a) pins σ H s :=
  ⟨⟨I.ok.mod, I.ok.kind, I.ok.glob, I.ok.blt, I.ok.above, I.ok.inj, I.ok.has, I.ok.cab, (fun z => nomatch (show false = true from z)), I.ok.frames, I.ok.stk, I.ok.exf, I.ok.bs, I.ok.bsz, I.ok.noex, I.ok.exfs, I.ok.funs, I.ok.frf⟩,
    I.os, I.bare, I.base, I.loc, I.cell, I.free, I.freeC, I.pin, I.hok, I.len⟩
theorem Inv.unmark (ok : X.Ok) (I : Inv (X.mk' a) pins σ H s) : Inv X pins σ H s := ⟨ok, I.os, I.bare, I.base, I.loc, I.cell, I.free, I.freeC, I.pin, I.hok, I.len⟩
end

/-! ### code that may raise, the names as they were -/
def XP (X : Cx) (pins : List (Addr × Obj)) (σ : St) (E : XK) (e : Value) (s' : Shared) : Prop := ∃ a cls dd H', e = .ref a ∧ Inv X pins σ H' s' ∧ XSt X pins H' s'.heap a cls dd ∧ E cls dd H'
def PX (X : Cx) (e : Expr) (t : XK → TE) : Prop :=
  ∀ (E : XK) (pins : List (Addr × Obj)) (s : Shared) (σ : St) (H : Hp) (Q : VK), Inv X pins σ H s → t E σ H Q → wpAny (model X.prog X.w) X.A (eval e X.env) (EP X pins σ Q) (XP X pins σ E) s
def PSX (X : Cx) (st : Stmt) (t : XK → TS) : Prop :=
  ∀ (E : XK) (pins : List (Addr × Obj)) (s : Shared) (σ : St) (H : Hp) (D : Ends), Inv X pins σ H s → t E D σ H → wpAny (model X.prog X.w) X.A (exec st X.env) (SP X pins D) (XP X pins σ E) s
section
variable {X : Cx} {x : Str} {p pos : Pos} {e : Expr} {es : List Expr} {t : TA} {ps : List Str} {sp : Sp} {n m : Nat} {E : XK}
theorem calm_wp {α : Type} {M : Model} {A : Around} {E E' : Value → Shared → Prop} {s : Shared} {c : Sem α} {Q : α → Shared → Prop} (hx : E' = fun _ _ => False) (h : wpAny M A c Q E' s) : wpAny M A c Q E s := by
  subst hx; exact wpAny_noRaise h
theorem run_fnX {pins : List (Addr × Obj)} {σ : St} {H : Hp} {s : Shared} {Q : VK} {us : List Value} {vs : List V} {f : Addr} {fd : FuncData} {k : Nat} (F : FnOk X.prog X.w X.K X.mg X.base (CXE X.prog X.w) k f fd ps sp) (hr : Room k X.A) (hb : Binds X.K fd ps [])
    (I : Inv X pins σ H s) (r : Vals vs us) (h : sp (vs ++ []) H Q E) : wpAny (model X.prog X.w) X.A (call (.ref f) us) (EP X pins σ Q) (XP X pins σ E) s := by
  have r2 : Vals (vs ++ []) (us ++ []) := r.append .nil
  have hl : (us ++ []).length = ps.length := by rw [← r2.length]; exact F.len _ _ _ _ h
  refine wpAny_call (codeAny_mono (F.run X.A X.stack s H ⟨us, []⟩ (us ++ []) (vs ++ []) Q E hr I.env0 (hb s us I.kIn hl) r2 h) fun r s' hq => ?_)
  cases r with
  | error e => exact I.afterE hq
  | ok fl =>
    cases fl with
    | ret u => exact I.after hq
    | next => exact False.elim hq
    | brk => exact False.elim hq
    | cont => exact False.elim hq
theorem px_fn (hx : X.xe = fun _ _ => False) (c : CalX X.prog X.w X.K X.mg X.base n x ps sp) (hr : Room m X.A) (hn : n ≤ m) (hg : Gl X x) (ha : PA X (e :: es) t) (hdb : (x == ("__debug__" : Str)) = false := by decide)
    (hp : plainAll (e :: es) = true := by rfl) : PX X (.Call (.Name x p) (e :: es) [] pos) (fun E => tCall sp [] E t) := by
  obtain ⟨f, fd, F, b, k, hm⟩ := c.ex
  have h' : (notStar e && plainAll es) = true := hp
  rw [Bool.and_eq_true] at h'
  intro E pins s σ H Q I h
  refine wpAny_Call_Name_kw (ld_glob I hg hm ?_ hdb)
  refine PySem.W.callWith_K (h₀ := X.base) I.ok.mod.kin k (thn (calm_wp hx (ha pos pins s σ H _ I h)) fun us s1 ⟨vs, H1, I1, r, q⟩ => ⟨I1.kIn, ?_⟩) (starEach_c h'.1) (plain_any h'.2)
  exact run_fnX (F.mono hn) hr b I1 r q
/-- x = f(..) -/
def xAsg (i : Nat) (t : XK → TE) : XK → TS := fun E D σ H => t E σ H fun v H1 => D.nx (σ.set i (some v)) H1
def xExp (t : XK → TE) : XK → TS := fun E D σ H => t E σ H fun _ H1 => D.nx σ H1
def xRet (t : XK → TE) : XK → TS := fun E D σ H => t E σ H fun v H1 => D.rt v H1
theorem psx_set {i : Nat} {te : XK → TE} {pos' : Pos} (hN : X.N.Nodup) (hi : X.N[i]? = some x) (hx : Loc X.env.scope x) (he : PX X e te) (hs : swapsWith e (some (.Name x pos')) pos.line X.env = pure false := by rfl) (hf : X.fn x = true ∨ X.env.scope.names.lookup x = some .local := by first | exact .inl rfl | exact .inr rfl | assumption) :
    PSX X (.Assign [.Name x pos'] e pos) (xAsg i te) := by
  intro E pins s σ H D I h
  refine wpAny_Assign_Name (thn (he E pins s σ H _ I h) fun v s1 ⟨y, H1, I1, r1, q1⟩ => ?_) hs
  exact store_ok I1 hN hi hx r1 (fun s2 I2 => ⟨_, H1, I2, q1⟩) hf
def xIf (c : TT) (t u : XK → TS) : XK → TS := fun E D σ H => c σ H fun b H1 => ifB b (t E D σ H1) (u E D σ H1)
/-! ### try, one statement; except C: a suite that does not raise -/
def tTry (K : PySem.W.Frag) (C : Addr) (t : XK → TS) (u : TS) : TS := fun D σ H => ∃ M : XK, t M D σ H ∧ ∀ cls dd H1, M cls dd H1 → Catches K cls C true ∧ u D σ H1
theorem XSt.land {X : Cx} {pins : List (Addr × Obj)} {σ : St} {H : Hp} {s : Shared} {a T : Addr} {cls : Value} {dd : Option Addr} {fl : Value} {M : Model} {A : Around} {E : Value → Shared → Prop} {Q : Unit → Shared → Prop} (I : Inv X pins σ H s) (x : XAt s.heap a T cls dd fl) (fT : Nw X pins H T)
    (h : ∀ h', Inv X pins σ H { s with heap := h' } → XAt h' a T cls dd .none → Q () { s with heap := h' }) : wpAny M A (setFlight (.ref a) none) Q E s :=
  flight_put x fun h' p x' => h h' (I.pass (p.more fun _ z => nomatch z) (by simpa using fT)) x'
end
end L2

set_option Elab.async false
set_option linter.all false
set_option maxRecDepth 100000
set_option maxHeartbeats 1000000
namespace L2
open PySem PySem.Spec PyProof.Rows PySem.W

section
variable {prog : Program} {w : World} {A : Around} {E : Value → Shared → Prop} {s : Shared} {K : Frag} {x D : Addr} {ox : Obj} {odo : Option Obj} {name : Str}
theorem exc_ga {R : Result → Shared → Prop} {tk : Tok} (X : K.In s.heap) (I : PySem.W.InstAt s.heap x ox D odo)
    (hcl : findIn K (.ref D) "__class__" = some (some (.builtin "object.__class__"))) (hmB : mroIn K D (.type "BaseException") = some true) (hmO : mroIn K D (.type "object") = some true)
    (h : R (.ok (.ret (.ref D))) s) : codeAny (model prog w) A (.call (.builtin "BaseException.__getattribute__") ⟨[.ref x, .str (Str.ofString "__class__") tk], []⟩) R s := by
  obtain ⟨hh, g, d, t, os⟩ := s
  have L0 := I.type (M := model prog w)
  have L3 := looks_findIn (M := model prog w) X hcl
  have L4 := looks_mroIn (M := model prog w) X hmB
  refine codeAny_call_builtin PySem.F.attr_ValueError.ga.plain PySem.F.entry_bexc_ga ?_
  have hk : builtinKind "BaseException.__getattribute__" = some .slot := by decide +kernel
  have hsplit : splitId "BaseException.__getattribute__" = some ("BaseException", "__getattribute__") := by decide +kernel
  have ha := PySem.F.args_bexc_ga (.ref x) (.str (Str.ofString "__class__") tk)
  simp only [checkBuiltinCall, hk, hsplit]
  refine wpAny_bind ?_
  unfold isInstance
  refine wpAny_bind (L0.at (L4.at ?_))
  have f5 := KF.type_class
  have f6 := PySem.F.slot_gs_get.lookup
  have f7 := PySem.F.slot_gs_set.lookup
  repeat (any_goals (first | assumption | with_reducible refine L0.at ?_ | with_reducible refine L3.at ?_ | wp_step))
  refine class_get (s := ⟨hh, g, d, t, os⟩) (ox := ox) (od := odo) X I hmO ?_
  repeat (any_goals (first | assumption | wp_step))
theorem exc_cls {Q : Option Value → Shared → Prop} (X : K.In s.heap) (I : PySem.W.InstAt s.heap x ox D odo) (hga : findIn K (.ref D) "__getattribute__" = some (some (.builtin "BaseException.__getattribute__")))
    (hgr : findIn K (.ref D) "__getattr__" = some none) (hcl : findIn K (.ref D) "__class__" = some (some (.builtin "object.__class__"))) (hmB : mroIn K D (.type "BaseException") = some true) (hmO : mroIn K D (.type "object") = some true)
    (h : Q (some (.ref D)) { s with toks := s.toks + 1 }) : wpAny (model prog w) A (getAttr? (.ref x) "__class__") Q E s := by
  obtain ⟨hh, g, d, t, os⟩ := s
  have L0 := I.type (M := model prog w)
  have L1 := looks_findIn (M := model prog w) X hga
  have L2' := looks_findIn (M := model prog w) X hgr
  have L3 := looks_findIn (M := model prog w) X hcl
  have L4 := looks_mroIn (M := model prog w) X hmB
  have f3 := PySem.F.attr_ValueError.ga.bind (.ref x)
  unfold getAttr? getAttrBy? getAttrBy
  refine wpAny_bind (wpAny_mkText (wpAny_bind (wpAny_attempt (wpAny_holding (wpAny_bind (L0.at (wpAny_bind (L1.at ?_))))))))
  have hx2 : (Value.builtin "BaseException.__getattribute__" == Value.builtin "object.__getattribute__") = false := by decide +kernel
  repeat (any_goals (first | assumption | wp_step))
  refine L2'.at ?_
  repeat (any_goals (first | assumption | wp_step))
  refine exc_ga X I hcl hmB hmO ?_
  exact handed_on rfl (wpAny_pure h)
end
/-! ### an exception that a name holds -/
def excO (a : Addr) (cls : Value) (dd : Option Addr) : HO := .ext fun h => ∃ oe vs, h.get? a = some oe ∧ oe.cls = cls ∧ oe.dict = dd ∧ oe.data = .fields vs ∧ vs[2]? = some .none
theorem excO_ok {P : Program} {w : World} {H : Hp} {h : Heap} {a T : Addr} {cls fl : Value} {dd : Option Addr} (x : XAt h a T cls dd fl) : ObjOk P w H h a (excO a cls dd) := by
  obtain ⟨oe, vs, oT, ts, h1, h2, h3, h4, h5, h5', _⟩ := x.ex
  exact ⟨⟨oe, vs, h1, h2, h3, h4, h5'⟩, ⟨_, h1⟩, fun g1 g2 ⟨oe, vs, k1, k2⟩ st => ⟨oe, vs, st _ k1, k2⟩⟩
/-- what a class of exceptions must have for isinstance -/
structure ExcK (K : Frag) (D : Addr) : Prop where
  ga : findIn K (.ref D) "__getattribute__" = some (some (.builtin "BaseException.__getattribute__"))
  gr : findIn K (.ref D) "__getattr__" = some none
  cl : findIn K (.ref D) "__class__" = some (some (.builtin "object.__class__"))
  mB : mroIn K D (.type "BaseException") = some true
  mO : mroIn K D (.type "object") = some true
theorem kitx_exc {K : Frag} {x D : Addr} {ox : Obj} {odo : Option Obj} (k : ExcK K D) : KitX K (.ref x) (.ref D) (fun h => PySem.W.InstAt h x ox D odo) where
  ty := fun _ _ _ I => I.type
  it := fun M h X _ => by
    obtain ⟨cd, hc, _⟩ := Option.bind_eq_some_iff.mp k.mO
    unfold clsIn at hc
    split at hc
    · rename_i c' d' cd' sl' ho
      intro A' Q' E' s' kk q
      unfold isType loadHead
      exact wpAny_bind (wpAny_loadPart (kk _ _ (X _ _ ho)) (wpAny_pure q))
    · cases hc
  ne := fun h tp dd its n sl X htp => by
    obtain ⟨cd, hc, _⟩ := Option.bind_eq_some_iff.mp k.mO
    refine Bool.eq_false_iff.mpr fun q => ?_
    have e : D = tp := Value.ref.inj (beq_iff_eq.mp q)
    subst e
    unfold clsIn at hc
    split at hc
    · rename_i c' d' cd' sl' ho
      have z := (X _ _ ho).symm.trans htp
      cases z
    · cases hc
  ca := fun X I q => exc_cls X I k.ga k.gr k.cl k.mB k.mO q
section
variable {X : Cx} {pins : List (Addr × Obj)} {σ : St} {H : Hp} {s : Shared} {a : Addr} {o : HO}
theorem Inv.track (I : Inv X pins σ H s) (n : Nw X pins H a) (ok : ObjOk X.prog X.w (upd H a o) s.heap a o) : Inv X pins σ (upd H a o) s := by
  obtain ⟨n1, n2, n3, n4, n5, n6⟩ := n
  have old : ∀ b u, H b = some u → upd H a o b = some u := fun b u e => by rw [upd_ne (ne_of_none e n1)]; exact e
  refine ⟨I.ok, I.os, I.bare, ⟨I.base.keep, I.base.slot, fun b u e n hx => ?_, I.base.there, fun b xs e => old _ _ (I.base.tups b xs e), fun b u v e => old _ _ (I.base.frzs b u v e), fun b ps e => ?_⟩, I.loc, I.cell, ?_, fun x c e => ?_, fun p hp => ?_, fun b u e => ?_, I.len⟩
  · have hb : b ≠ a := fun z => by
      subst z
      rcases n4 with q | q
      · exact hx q
      · rw [e] at q; cases q
    rw [upd_ne hb]; exact I.base.free b u e n hx
  · obtain ⟨m, q⟩ := I.base.tbls b ps e
    exact ⟨m, old _ _ q⟩
  · rw [upd_ne (Ne.symm n2)]; exact I.free
  · rw [upd_ne (n5 x c e)]; exact I.freeC x c e
  · obtain ⟨e, n, r⟩ := I.pin p hp
    exact ⟨e, by rw [upd_ne (n6 p hp)]; exact n, r⟩
  · by_cases hb : b = a
    · subst hb; rw [upd_same] at e; cases e; exact ok
    · rw [upd_ne hb] at e
      exact (I.hok b u e).stay (fun _ _ _ q => q) (fun c q => old _ _ q) fun c xs q => old _ _ q
theorem goes_ok {M : Model} {A : Around} {E : Value → Shared → Prop} {j : Nat} {n : Str} {pos : Pos} {Q : Unit → Shared → Prop} (I : Inv X pins σ H s) (hN : X.N.Nodup) (hj : X.N[j]? = some n) (hk : X.env.scope.names.lookup n = some .local)
    (h : ∀ s', Inv X pins (σ.set j none) H s' → Q () s') : wpAny M A (do bindName X.env n .none; unbindBehindTheSuite X.env n pos) Q E s := by
  obtain ⟨m, hn, hl⟩ := id I.loc
  have hcls : (X.env.scope.kind == .class || (X.env.scope.kind == .module && X.env.locals != X.env.globals)) = false := by rw [I.ok.kind]; rfl
  have hjσ : j < σ.length := by rw [I.len]; exact (List.getElem?_eq_some_iff.mp hj).1
  refine wpAny_nameGoes_keeps hk hn hcls fun h' v hn' hs => h _ ?_
  obtain ⟨oL, _, _, hoL, _⟩ := id hn
  refine ⟨I.ok, I.os, I.bare, ⟨fun b o e n hb hx => ?_, fun b o e n hb hx => ?_, I.base.free, fun b o e hx => ?_, I.base.tups, I.base.frzs, I.base.tbls⟩, ⟨_, hn', fun i y v' e1 e2 e3 => ?_⟩, fun y c e => ?_, I.free, I.freeC, fun p hp => ?_, fun b ob e => ?_, by simpa using I.len⟩
  · exact (hs.2 b (Nat.ne_of_lt (Nat.lt_of_lt_of_le (Heap.lt_size e) I.ok.above))).trans (I.base.keep b o e n hb hx)
  · obtain ⟨sl, e1⟩ := I.base.slot b o e n hb hx
    exact ⟨sl, (hs.2 b (Nat.ne_of_lt (Nat.lt_of_lt_of_le (Heap.lt_size e) I.ok.above))).trans e1⟩
  · obtain ⟨o', e1⟩ := I.base.there b o e hx
    exact ⟨o', (hs.2 b (Nat.ne_of_lt (Nat.lt_of_lt_of_le (Heap.lt_size e) I.ok.above))).trans e1⟩
  · by_cases hij : i = j
    · subst hij
      rw [List.getElem?_set_self hjσ] at e2
      cases e2
    · rw [List.getElem?_set_ne (Ne.symm hij)] at e2
      obtain ⟨u', r', q⟩ := hl i y v' e1 e2 e3
      refine ⟨u', r', ?_⟩
      rcases q with ⟨k, e⟩ | ⟨k, c, e, z⟩
      · refine .inl ⟨k, ?_⟩
        have : y ≠ n := fun e => hij (nodup_ix hN e1 (e ▸ hj))
        simp [this, e]
      · exact .inr ⟨k, c, e, z.sameBut hs (I.cne y c e)⟩
  · obtain ⟨w', z⟩ := I.cell y c e
    exact ⟨w', z.sameBut hs (I.cne y c e)⟩
  · obtain ⟨e, n, ne, nf, d⟩ := I.pin p hp
    exact ⟨(hs.2 p.1 ne).trans e, n, ne, nf, d⟩
  · refine (I.hok b ob e).stay (fun c w' hc q => (hs.2 c ?_).trans q) (fun _ q => q) fun _ _ q => q
    rintro rfl
    rcases hc with hc | hc
    · have z := I.free
      rw [hc, e] at z; cases z
    · rw [I.free] at hc; cases hc
end
/-! ### except C as n -/
def offJ (D : Ends) (j : Nat) : Ends := { nx := fun σ H => D.nx (σ.set j none) H, rt := D.rt, bk := fun σ H => D.bk (σ.set j none) H, ct := fun σ H => D.ct (σ.set j none) H }
def tTryAs (K : PySem.W.Frag) (C : Addr) (j : Nat) (t : XK → TS) (u : Addr → TS) : TS := fun D σ H => ∃ M : XK, t M D σ H ∧ ∀ cls dd H1, M cls dd H1 → Catches K cls C true ∧ ∀ a, H1 a = none → u a (offJ D j) (σ.set j (some (.ref a))) (upd H1 a (excO a cls dd))
section
variable {X : Cx}
/-- isinstance of an exception -/
def isiExc (K : PySem.W.Frag) (a : Addr) (c : V) (H : Hp) (Q : VK) : Prop := ∃ D dd cv b, H a = some (excO a (.ref D) dd) ∧ ExcK K D ∧ (dd = none ∨ ∃ d fs, dd = some d ∧ H d = some (.xd fs)) ∧ cV c = some cv ∧ PySem.W.kitOne K (.ref D) cv = some b ∧ Q (.bl b) H
end
end L2

set_option Elab.async false
set_option linter.all false
set_option maxRecDepth 100000
set_option maxHeartbeats 1000000
namespace L2
open PySem PySem.Spec PyProof.Rows PySem.W
section
variable {prog : Program} {w : World} {A : Around} {E : Value → Shared → Prop} {s : Shared}
end
end L2

set_option Elab.async false
set_option linter.all false
set_option maxRecDepth 100000
set_option maxHeartbeats 1000000
namespace L2
open PySem PySem.Spec PyProof.Rows

/-! ### range(..) while the exception at a is handled -/
def ItrH (a : Addr) (lo : Int) (n : Nat) : It := ⟨fun i _ => i < n, fun i H x H' => H' = H ∧ x = .int (lo + i), fun i H => n ≤ i ∧ ∃ cls dd, H a = some (excO a cls dd)⟩
section
variable {X : Cx} {tg : Expr}
def wRngH1 (h : Addr) (ta : TA) : TI := fun σ H R => ta σ H fun vs H1 => match vs with | [.int j] => (-4611686018427387904 ≤ j ∧ j < 4611686018427387904) ∧ R (ItrH h 0 j.toNat) H1 | _ => False
end
/-! ### a def that is called in an except suite -/
structure RoomH (k : Nat) (A : Around) (a : Addr) : Prop where
  hd : A.handled = some (.ref a)
  dp : A.depth + 3 * k + 5 < recursionLimit
  un : A.units + 16 * k + 200 < cLine
structure FnOkH (P : Program) (w : World) (K : PySem.W.Frag) (mg : Str → Option Value) (base : Heap) (k : Nat) (f : Addr) (fd : FuncData) (ps : List Str) (sp : Addr → Sp) : Prop where
  len : ∀ a vs H Q E, sp a vs H Q E → vs.length = ps.length
  run : ∀ (a : Addr) (A : Around) (outer : List Env) (s : Shared) (H : Hp) (args : Args) (us : List Value) (vs : List V) (Q : VK) (E : XK), RoomH k A a → Env0 P w K mg base A outer s H → BindsTo s fd args (ps.zip us) → Vals vs us → sp a vs H Q E →
    codeAny (model P w) A (.call (.ref f) args) (CR CX0 outer P w H s Q E) s
def Cx.uncalm (X : Cx) : Cx := { X with calm := false, xe := fun _ _ => False }
structure CalH (P : Program) (w : World) (K : PySem.W.Frag) (mg : Str → Option Value) (base : Heap) (n : Nat) (x : Str) (ps : List Str) (sp : Addr → Sp) : Prop where
  ex : ∃ f fd, FnOkH P w K mg base n f fd ps sp ∧ Binds K fd ps [] ∧ PySem.W.keepIn K (.ref f) = true ∧ mg x = some (.ref f)
section
variable {X : Cx} {x : Str} {p pos : Pos} {e : Expr} {es : List Expr} {t : TA} {ps : List Str} {sp : Addr → Sp} {n m : Nat} {a : Addr}
end
/-! ### isinstance, exceptions too -/
def isiAny (K : PySem.W.Frag) (a : Addr) (c : V) (H : Hp) (Q : VK) : Prop := isiRef K (.ref a) c H Q ∨ isiExc K a c H Q
def wIsiX (K : PySem.W.Frag) : List V → Hp → VK → Prop := fun xs H Q => match xs with
  | [.ref a, c] => isiAny K a c H Q
  | xs => wIsi K xs H Q
theorem w_isiX {X : Cx} {K : PySem.W.Frag} (hK : X.K = K) : CallR X (.builtin "isinstance") (wIsiX K) := by
  intro pins s σ H xs us Q I r h
  have old : wIsi K xs H Q → wpAny (model X.prog X.w) X.A (call (.builtin "isinstance") us) (EP X pins σ Q) X.xe s := fun h => w_isi hK pins s σ H xs us Q I r h
  match xs, h with
  | [.ref a, c], h =>
    rcases h with h | ⟨D, dd, cv, b, e, k, hdd, hc, hk, q⟩
    · subst hK
      obtain ⟨cv, t, b, h1, h2, h3, h4⟩ := h
      exact call_isi pins s σ H _ us Q I r ⟨.ref a, c, cv, t, b, rfl, h1, h2, h3, h4⟩
    · subst hK
      obtain ⟨u, w', rfl, r1, r2⟩ := vals2 r
      cases cV_is hc r2
      obtain rfl : u = Value.ref a := r1
      obtain ⟨⟨oe, vs, k1, k2, k3, k4, k5⟩, _, _⟩ := I.hok a _ e
      rcases hdd with rfl | ⟨d, fs, rfl, ed⟩
      · refine PySem.W.kia_one (kitx_exc (ox := oe) (odo := none) k) I.kIn ⟨k1, k2, ?_, ?_⟩ hk (fun z => nomatch z) fun tk => ⟨.bl b, H, I.tok _, rfl, q⟩
        · unfold PySem.W.notCls; rw [k4]
        · rw [k3]; trivial
      · obtain ⟨mA, ⟨od, es, ep, e', _⟩, _⟩ := I.hok d _ ed
        refine PySem.W.kia_one (kitx_exc (ox := oe) (odo := some od) k) I.kIn ⟨k1, k2, ?_, ?_⟩ hk (fun z => nomatch z) fun tk => ⟨.bl b, H, I.tok _, rfl, q⟩
        · unfold PySem.W.notCls; rw [k4]
        · rw [k3]; exact e'
  | [], h => exact old h
  | [.non], h => exact old h
  | [.bl _], h => exact old h
  | [.int _], h => exact old h
  | [.str _], h => exact old h
  | [.byt _], h => exact old h
  | [.flt _], h => exact old h
  | [.ty _], h => exact old h
  | [.ref _], h => exact old h
  | [.non, c], h => exact old h
  | [.bl _, c], h => exact old h
  | [.int _, c], h => exact old h
  | [.str _, c], h => exact old h
  | [.byt _, c], h => exact old h
  | [.flt _, c], h => exact old h
  | [.ty _, c], h => exact old h
  | x :: y :: z :: r, h => exact old (by cases x <;> exact h)
theorem isiAnyI {K : PySem.W.Frag} {H : Hp} {a : Addr} {c : V} {cv t : Value} {b : Bool} {Q : VK} (h1 : cV c = some cv) (h2 : TyOf K H (.ref a) t) (h3 : PySem.W.kitOne K t cv = some b) (g : Q (.bl b) H) : isiAny K a c H Q := .inl ⟨cv, t, b, h1, h2, h3, g⟩
theorem isiAnyX {K : PySem.W.Frag} {H : Hp} {a D : Addr} {c : V} {cv : Value} {b : Bool} {Q : VK} (e : H a = some (excO a (.ref D) none)) (k : ExcK K D) (h1 : cV c = some cv) (h3 : PySem.W.kitOne K (.ref D) cv = some b) (g : Q (.bl b) H) : isiAny K a c H Q := .inr ⟨D, none, cv, b, e, k, .inl rfl, h1, h3, g⟩
theorem isiAnyXd {K : PySem.W.Frag} {H : Hp} {a D d : Addr} {fs : List (Str × V)} {c : V} {cv : Value} {b : Bool} {Q : VK} (e : H a = some (excO a (.ref D) (some d))) (ed : H d = some (.xd fs)) (k : ExcK K D) (h1 : cV c = some cv) (h3 : PySem.W.kitOne K (.ref D) cv = some b) (g : Q (.bl b) H) : isiAny K a c H Q := .inr ⟨D, some d, cv, b, e, k, .inr ⟨d, fs, rfl, ed⟩, h1, h3, g⟩
end L2

set_option Elab.async false
set_option linter.all false
set_option maxRecDepth 100000
set_option maxHeartbeats 1000000
namespace L2
open PySem PySem.Spec PyProof.Rows

/-! ### methods and fields of own classes, the class known where it is read -/
theorem meth_call {M : Model} {A : Around} {E : Value → Shared → Prop} {s : Shared} {env : Env} {o : Expr} {m : Str} {apos pos : Pos} {es : List Expr} {Q : Value → Shared → Prop} (hb : notCall0 o = true) (hp : plainAll es = true) (hl : es.length < 29) (hline : (apos.endLine == pos.line) = true)
    (h : wpAny M A (eval o env) (fun ov s₁ => wpAny M A (getMethod ov m (do return (← importBound o env).getD true)) (fun fx s₂ => wpAny M A (callWith pos fx.1 fx.2 (backTo pos (starEach es env)) (backToKw pos (keywordEach [] env))) Q E s₂) E s₁) E s) :
    wpAny M A (eval (.Call (.Attribute o m apos) es [] pos) env) Q E s := by
  have hfew : methodCallForm (es.length + ([] : List Keyword).length) (backTo pos (starEach es env)) (backToKw pos (keywordEach [] env)) = true := by
    unfold methodCallForm
    rw [plain_all hp, arm_keywordEach_nil]
    show (true && true && decide (es.length + 0 + 0 < 30)) = true
    rw [decide_eq_true (by omega)]; rfl
  rw [arm_eval_Call, base_c hb]
  refine wpAny_bind (thn h fun ov s1 h1 => wpAny_bind (wpAny_standAt ?_))
  unfold methodCall
  rw [hfew]
  refine wpAny_bind (wpAny_holding ?_)
  unfold calleeOf
  rw [if_pos rfl]
  refine thn h1 fun fx s2 h2 => ?_
  refine wpAny_bind ?_
  unfold methodCallPos
  rw [hline]
  exact wpAny_pure h2
/-- a method of a class, promised -/
structure MCal (P : Program) (w : World) (K : PySem.W.Frag) (mg : Str → Option Value) (base : Heap) (CX : CXT) (n : Nat) (m : Str) (C : Addr) (sp : Sp) : Prop where
  ex : ∃ f fd ps, Cls K C ∧ Meth K C m f ∧ FnOk P w K mg base CX n f fd ps sp ∧ Binds K fd ps []
def methAt (P : Program) (w : World) (K : PySem.W.Frag) (mg : Str → Option Value) (base : Heap) (CX : CXT) (n : Nat) (m : Str) (a : Addr) (E : XK) (H : Hp) (k : Sp → Prop) : Prop := ∃ C dx fs sp, H a = some (.ins C dx fs) ∧ fs.lookup m = none ∧ MCal P w K mg base CX n m C sp ∧ k sp
def wMeth (P : Program) (w : World) (K : PySem.W.Frag) (mg : Str → Option Value) (base : Heap) (CX : CXT) (n : Nat) (m : Str) (E : XK) (to : TE) (t : TA) : TE := fun σ H Q => to σ H fun x H1 => match x with
  | .ref a => methAt P w K mg base CX n m a E H1 fun sp => t σ H1 fun vs H2 => sp (.ref a :: vs) H2 Q E
  | _ => False
section
variable {X : Cx} {CX : CXT} {o e : Expr} {es : List Expr} {to : TE} {t : TA} {m : Str} {apos pos : Pos} {n k : Nat} {E : XK}
/-- o.f -/
def fldAt (K : PySem.W.Frag) (f : Str) (a : Addr) (H : Hp) (Q : VK) : Prop := ∃ C dx fs v, H a = some (.ins C dx fs) ∧ Cls K C ∧ NoAttr K C f ∧ fs.lookup f = some v ∧ Q v H
def wFld (K : PySem.W.Frag) (f : Str) (to : TE) : TE := fun σ H Q => to σ H fun x H1 => match x with | .ref a => fldAt K f a H1 Q | _ => False
/-- o.f = e -/
def putAt (K : PySem.W.Frag) (f : Str) (a : Addr) (y : V) (H : Hp) (R : Hp → Prop) : Prop := ∃ C dx fs, H a = some (.ins C dx fs) ∧ Cls K C ∧ NoAttr K C f ∧ fs.length < 1000 ∧ R (upd H a (.ins C dx (putF f y fs)))
def wPut (K : PySem.W.Frag) (f : Str) (to tv : TE) : TS := fun D σ H => tv σ H fun y H1 => to σ H1 fun x H2 => match x with | .ref a => putAt K f a y H2 fun H3 => D.nx σ H3 | _ => False
end
/-- C(..), C with __init__ -/
structure MkCal (P : Program) (w : World) (K : PySem.W.Frag) (mg : Str → Option Value) (base : Heap) (CX : CXT) (n : Nat) (x : Str) (C : Addr) (sp : Sp) : Prop where
  ex : ∃ f fd ps, Mk K C f ∧ FnOk P w K mg base CX n f fd ps sp ∧ Binds K fd ps [] ∧ mg x = some (.ref C)
section
variable {X : Cx} {CX : CXT} {e : Expr} {es : List Expr} {t : TA} {x : Str} {p pos : Pos} {n k : Nat} {E : XK} {C : Addr} {sp : Sp}
def newAt (C : Addr) (sp : Sp) (E : XK) (vs : List V) (H : Hp) (Q : VK) : Prop := ∀ a dx, H a = none → H dx = none → dx ≠ a → sp (.ref a :: (vs ++ [])) (upd (upd H dx (.own a)) a (.ins C dx [])) (fun v H2 => v = .non ∧ Q (.ref a) H2) E
def wMake (C : Addr) (sp : Sp) (E : XK) (t : TA) : TE := fun σ H Q => t σ H fun vs H1 => newAt C sp E vs H1 Q
end
end L2

set_option Elab.async false
set_option linter.all false
set_option maxRecDepth 100000
set_option maxHeartbeats 1000000
namespace L2
open PySem PySem.Spec PyProof.Rows
section
variable {X : Cx} {K : PySem.W.Frag} {a b c : Expr} {ta tb tc : TE} {pos : Pos}
/-! + of tuples too -/
def catA (K : PySem.W.Frag) (p q : Addr) (H : Hp) (Q : VK) : Prop := catL p q H Q ∨ ∃ xs ys, SqT K H p xs ∧ SqT K H q ys ∧ xs ≠ [] ∧ xs.length + ys.length ≤ sizeLine ∧ (ys = [] → Q (.ref p) H) ∧ (ys ≠ [] → ∀ l, H l = none → Q (.ref l) (upd H l (.tup (xs ++ ys))))
def wAddX (K : PySem.W.Frag) : R2 := fun x y H Q => match x, y with
  | .int i, .int j => Q (.int (i + j)) H
  | .str a, .str b => a.length + b.length ≤ sizeLine ∧ Q (.str (a ++ b)) H
  | .ref p, .ref q => catA K p q H Q
  | _, _ => False
theorem w_addX (hK : X.K = K) : OpR X (binaryOp .Add) (wAddX K) := by
  subst hK
  refine (w_add.or op_catT).imp fun x y H Q h => ?_
  cases x with
  | int i => cases y with
    | int j => exact .inl h
    | _ => exact False.elim h
  | str a => cases y with
    | str b => exact .inl h
    | _ => exact False.elim h
  | ref p => cases y with
    | ref q =>
      rcases h with h | ⟨xs, ys, h1, h2, h3, h4, h5, h6⟩
      · exact .inl h
      · exact .inr ⟨p, q, xs, ys, rfl, rfl, h1, h2, h3, h4, h5, h6⟩
    | _ => exact False.elim h
  | _ => exact False.elim h
theorem catAL {p q : Addr} {H : Hp} {Q : VK} {xs ys : List V} (h1 : H p = some (.lst xs)) (h2 : H q = some (.lst ys)) (hz : xs.length + ys.length ≤ sizeLine) (g : ∀ l, H l = none → Q (.ref l) (upd H l (.lst (xs ++ ys)))) : catA K p q H Q := .inl ⟨xs, ys, h1, h2, hz, g⟩
/-! a op b op' c -/
def wChain (r r' : R2) (ta tb tc : TE) : TE := fun σ H Q => ta σ H fun x H1 => tb σ H1 fun y H2 => r x y H2 fun z H3 => match z with | .bl k => ifB k (tc σ H3 fun w' H4 => r' y w' H4 Q) (Q (.bl false) H3) | _ => False
def wTChain (r r' : R2) (ta tb tc : TE) : TT := fun σ H Q => ta σ H fun x H1 => tb σ H1 fun y H2 => r x y H2 fun z H3 => match z with | .bl k => ifB k (tc σ H3 fun w' H4 => r' y w' H4 fun v H5 => match v with | .bl c => Q c H5 | _ => False) (Q false H3) | _ => False
theorem wt_chain {op op' : CmpOp} {r r' : R2} (ho : OpR X (compareOp op) r) (ho' : OpR X (compareOp op') r') (ha : PE X a ta) (hb : PE X b tb) (hc : PE X c tc)
    (hm : lastMarks [op, op'] [b, c] = false := by with_unfolding_all rfl) : PT X (.Compare a [op, op'] [b, c] pos) (wTChain r r' ta tb tc) := by
  intro pins s σ H Q I h
  refine isTrue_chain (thn (ha pins s σ H _ I h) fun v s1 ⟨x, H1, I1, r1, q1⟩ => test_link (thn (hb pins s1 σ H1 _ I1 q1) fun u s2 ⟨y, H2, I2, r2, q2⟩ =>
    thn (ho pins s2 σ H2 x y v u _ I2 r1 r2 q2) fun d s3 ⟨z, H3, I3, r3, q3⟩ => ?_)) hm
  match z, q3 with
  | .bl k, q3 =>
    cases r3
    refine wpAny_truthy_bool ?_
    cases k with
    | false => exact ite_ff ⟨H3, I3, q3⟩
    | true =>
      refine ite_tt (test_last (thn (hc pins s3 σ H3 _ I3 q3) fun w' s4 ⟨z', H4, I4, r4, q4⟩ => thn (ho' pins s4 σ H4 y z' u w' _ I4 r2 r4 q4) fun d' s5 ⟨z2, H5, I5, r5, q5⟩ => ?_))
      match z2, q5 with
      | .bl c, q5 =>
        cases r5
        exact wpAny_truthy_bool ⟨H5, I5, q5⟩
/-! methods of lists -/
def clrL (a : Addr) (H : Hp) (Q : VK) : Prop := ∃ xs, H a = some (.lst xs) ∧ Q .non (upd H a (.lst []))
def wClear : V → List V → Hp → VK → Prop := fun x xs H Q => match x, xs with | .ref a, [] => clrL a H Q | _, _ => False
def rvsL (a : Addr) (H : Hp) (Q : VK) : Prop := ∃ xs, H a = some (.lst xs) ∧ Q .non (upd H a (.lst xs.reverse))
def wReverse : V → List V → Hp → VK → Prop := fun x xs H Q => match x, xs with | .ref a, [] => rvsL a H Q | _, _ => False
def extL (a b : Addr) (H : Hp) (Q : VK) : Prop := ∃ xs zs, H a = some (.lst xs) ∧ H b = some (.lst zs) ∧ xs.length + zs.length ≤ sizeLine ∧ Q .non (upd H a (.lst (xs ++ zs)))
def wExtend : V → List V → Hp → VK → Prop := fun x xs H Q => match x, xs with | .ref a, [.ref b] => extL a b H Q | _, _ => False
def popL (a : Addr) (H : Hp) (Q : VK) : Prop := ∃ xs y, H a = some (.lst xs) ∧ xs[xs.length - 1]? = some y ∧ Q y (upd H a (.lst xs.dropLast))
def wPop : V → List V → Hp → VK → Prop := fun x xs H Q => match x, xs with | .ref a, [] => popL a H Q | _, _ => False
/-! str(n), max, min -/
def wStrI : List V → Hp → VK → Prop := fun xs H Q => match xs with | [.int i] => i.natAbs.log2 < 1920 ∧ Q (.str (toString i)) H | _ => False
theorem w_strI : CallR X (.type "str") wStrI := call_str_int.imp fun xs H Q h => by
  match xs, h with
  | [.int i], h => exact ⟨i, rfl, h⟩
def wMax : List V → Hp → VK → Prop := fun xs H Q => match xs with | [.int i, .int j] => Q (.int (if j > i then j else i)) H | _ => False
def wMin : List V → Hp → VK → Prop := fun xs H Q => match xs with | [.int i, .int j] => Q (.int (if j < i then j else i)) H | _ => False
end
/-! range(lo, hi, step) -/
def ItrS (lo st : Int) (n : Nat) : It := ⟨fun i _ => i < n, fun i H x H' => H' = H ∧ x = .int (lo + i * st), fun i _ => n ≤ i⟩
def wRng3 (ta : TA) : TI := fun σ H R => ta σ H fun vs H1 => match vs with
  | [.int i, .int j, .int k] => (k ≠ 0 ∧ Builtin.divisionGoesByPylong (j - i) k = false ∧ Builtin.Range.small i j k = true) ∧ R (ItrS i k (Builtin.Range.rangeSize i j k).toNat) H1
  | _ => False
end L2

set_option Elab.async false
set_option linter.all false
set_option maxRecDepth 100000
set_option maxHeartbeats 1000000
namespace L2
open PySem PySem.Spec PyProof.Rows Builtin Builtin.Str
section
variable {X : Cx} {K : PySem.W.Frag}
theorem strVals {l : List (Str × Tok)} : Vals ((l.map (·.1)).map V.str) (strValues l) := by
  induction l with
  | nil => exact .nil
  | cons p r ih => exact .cons ⟨p.2, rfl⟩ ih
/-- x.split(y) -/
def wSplit : V → List V → Hp → VK → Prop := fun x xs H Q => match x, xs with
  | .str z, [.str y] => ((y.length == 0) = false ∧ z.length + 2 ≤ sizeLine) ∧ ∀ l, H l = none → Q (.ref l) (upd H l (.lst ((Txt.split z y).map V.str)))
  | _, _ => False
theorem w_split : MtR X "str.split" wSplit := by
  intro pins s σ H x xs v us Q I rx rs h
  match x, xs, h with
  | .str x, [.str y], ⟨⟨hy, hsz⟩, q⟩ =>
    obtain ⟨t, rfl⟩ := rx
    cases rs with
    | cons r rr =>
      cases rr
      obtain ⟨u, rfl⟩ := r
      have hn : (partsBetween x (occurrences x y 0 x.length (x.length + 1)) y.length).length ≤ sizeLine := by
        have e1 := StrLaws.occ_length_le x y 0 x.length (x.length + 1)
        rw [length_partsBetween]; omega
      have go : ∀ (l : List (Str × Tok)) (k : Nat), l.map (·.1) = Txt.split x y → l.length ≤ sizeLine → EP X pins σ Q (.ref s.heap.objs.size) { s with heap := s.heap.push { cls := .type "list", data := .seq (strValues l).toArray }, toks := k } := fun l k e hl => by
        refine ⟨.ref s.heap.objs.size, _, I.laid (t' := k) (o := .lst ((Txt.split x y).map V.str)) (fun b ob q => Heap.get?_push_of_some _ q) (Nat.le_refl _) ?_, rfl, q _ (I.hok.fresh (Nat.le_refl _))⟩
        rw [← e]
        exact ⟨by simpa using hl, strValues l, 0, strVals, Heap.get?_push_size _ rfl⟩
      have one : 1 ≤ sizeLine := by omega
      cases h1 : (decide (x.length < y.length) || decide (strKind x < strKind y))
      · cases hf : (occurrences x y 0 x.length (x.length + 1)).isEmpty
        · refine call_meets F.slot_str_split (typeIs_str _ _ _) F.entry_str_split (F.args_str_split_2 _ _) (meets_str_split_sep x y t u h1 hy hf (by omega) hn) ?_
          show wants _ _ _ { s with toks := _, heap := s.heap.push { cls := .type "list", data := .seq (strsFrom s.toks (partsBetween x (occurrences x y 0 x.length (x.length + 1)) y.length)).toArray } }
          rw [strsFrom_eq]
          have e : (numbered s.toks (partsBetween x (occurrences x y 0 x.length (x.length + 1)) y.length)).map (·.1) = Txt.split x y := (numbered_texts _ _).trans ((if_neg (ne_true_of_eq_false h1)).trans (if_neg (ne_true_of_eq_false hf))).symm
          refine go _ _ e ?_
          have e2 := congrArg List.length (numbered_texts s.toks (partsBetween x (occurrences x y 0 x.length (x.length + 1)) y.length))
          rw [List.length_map] at e2
          omega
        · exact call_meets F.slot_str_split (typeIs_str _ _ _) F.entry_str_split (F.args_str_split_2 _ _) (meets_str_split_not_found x y t u h1 hy hf)
            (go [(x, t)] s.toks ((if_neg (ne_true_of_eq_false h1)).trans (if_pos hf)).symm one)
      · exact call_meets F.slot_str_split (typeIs_str _ _ _) F.entry_str_split (F.args_str_split_2 _ _) (meets_str_split_cannot_occur x y t u h1)
          (go [(x, t)] s.toks (if_pos h1).symm one)
/-- slices, texts too -/
def wSlX (K : PySem.W.Frag) : V → Option Int → Option Int → Hp → VK → Prop := fun x lo hi H Q => match x with
  | .ref p => slSeq K p lo hi H Q
  | .str z => z.length ≤ sizeLine ∧ Q (.str (Txt.slice z lo hi)) H
  | _ => False
theorem w_slX (hK : X.K = K) : SlR X (wSlX K) := by
  intro pins s σ H x v vl vu lo hi sl Q I rx hs pl pu h
  cases x with
  | ref p => exact w_sl hK pins s σ H _ v vl vu lo hi sl Q I rx hs pl pu h
  | str z =>
    obtain ⟨t, rfl⟩ := rx
    obtain ⟨hz, q⟩ := h
    refine ⟨"str", _, F.slot_str_getitem.lookup, typeIs_str _ _ _, ?_⟩
    have fin : ∀ t' k, EP X pins σ Q (.str (Txt.slice z lo hi) t') { s with toks := k } := fun t' k => ⟨.str _, H, I.tok k, ⟨t', rfl⟩, q⟩
    cases pl with
    | none => cases pu with
      | none => exact wpAny_getItem_str_slice (l := none) (u := none) (st := none) hs rfl (post_val_or_str ⟨Nat.le_trans (Txt.slice_le z _ _) hz, fin⟩)
      | int j tj => exact wpAny_getItem_str_slice (l := none) (u := some (j, tj)) (st := none) hs rfl (post_val_or_str ⟨Nat.le_trans (Txt.slice_le z _ _) hz, fin⟩)
    | int i ti => cases pu with
      | none => exact wpAny_getItem_str_slice (l := some (i, ti)) (u := none) (st := none) hs rfl (post_val_or_str ⟨Nat.le_trans (Txt.slice_le z _ _) hz, fin⟩)
      | int j tj => exact wpAny_getItem_str_slice (l := some (i, ti)) (u := some (j, tj)) (st := none) hs rfl (post_val_or_str ⟨Nat.le_trans (Txt.slice_le z _ _) hz, fin⟩)
  | _ => exact False.elim h
/-- a class of the text, by its name -/
theorem pe_gref {x : Str} {C : Addr} {pos : Pos} (hg : Gl X x) (hm : X.mg x = some (.ref C)) (hdb : (x == ("__debug__" : Str)) = false := by decide) : PE X (.Name x pos) (tC (.ref C)) := pe_glob (v := V.ref C) hg hm rfl hdb
end
theorem Same.seqT {K : PySem.W.Frag} {H H' : Hp} {a : Addr} {xs : List V} (e : Same H H') (h : SqT K H a xs) : SqT K H' a xs := by
  rcases h with (h | ⟨o, h⟩) | h
  · exact .inl (.inl (e _ _ h))
  · exact .inl (.inr ⟨o, e _ _ h⟩)
  · exact .inr h
theorem Same.upd {H : Hp} {p : Addr} {o : HO} (hp : H p = none) : Same H (upd H p o) := fun b u z => by rw [upd_ne (ne_of_none z hp)]; exact z
end L2

set_option Elab.async false
set_option linter.all false
set_option maxRecDepth 100000
set_option maxHeartbeats 1000000
namespace L2
open PySem PySem.Spec PyProof.Rows
section
variable {K : PySem.W.Frag} {H H' : Hp} {x : V}
theorem pget1 {α β : Type} {F : α → β → Prop} : ∀ {xs : List α} {ds : List β} {i : Nat} {x : α}, Paired F xs ds → xs[i]? = some x → ∃ d, ds[i]? = some d ∧ F x d
  | _, _, 0, _, .cons r _, h => ⟨_, rfl, by simp at h; exact h ▸ r⟩
  | _, _, i + 1, _, .cons _ t, h => by simpa using pget1 t (by simpa using h)
  | _, _, i, _, .nil, h => by simp at h
theorem pget2 {α β : Type} {F : α → β → Prop} : ∀ {xs : List α} {ds : List β} {i : Nat} {d : β}, Paired F xs ds → ds[i]? = some d → ∃ x, xs[i]? = some x ∧ F x d
  | _, _, 0, _, .cons r _, h => ⟨_, rfl, by simp at h; exact h ▸ r⟩
  | _, _, i + 1, _, .cons _ t, h => by simpa using pget2 t (by simpa using h)
  | _, _, i, _, .nil, h => by simp at h
theorem _root_.PySem.Paired.len {α β : Type} {F : α → β → Prop} {xs : List α} {ds : List β} (h : Paired F xs ds) : xs.length = ds.length := by
  induction h with
  | nil => rfl
  | cons _ _ ih => simp [ih]
theorem _root_.PySem.Paired.get1 {α β : Type} {F : α → β → Prop} {xs : List α} {ds : List β} {i : Nat} {x : α} (h : Paired F xs ds) (e : xs[i]? = some x) : ∃ d, ds[i]? = some d ∧ F x d := pget1 h e
theorem _root_.PySem.Paired.get2 {α β : Type} {F : α → β → Prop} {xs : List α} {ds : List β} {i : Nat} {d : β} (h : Paired F xs ds) (e : ds[i]? = some d) : ∃ x, xs[i]? = some x ∧ F x d := pget2 h e
theorem _root_.PySem.Paired.app {α β : Type} {F : α → β → Prop} {xs xs' : List α} {ds ds' : List β} (h : Paired F xs ds) (h' : Paired F xs' ds') : Paired F (xs ++ xs') (ds ++ ds') := by
  induction h with
  | nil => exact h'
  | cons r _ ih => exact .cons r ih
abbrev Dens (K : PySem.W.Frag) (H : Hp) : List V → List D → Prop := Paired (Den K H)
theorem denT {a : Addr} {xs : List V} {ds : List D} (h : SqT K H a xs) (p : Dens K H xs ds) : Den K H (.ref a) (.tup ds) :=
  .tup h p.len fun i x d h1 h2 => by obtain ⟨e, h3, r⟩ := p.get1 h1; rw [h2] at h3; cases h3; exact r
theorem denL {a : Addr} {xs : List V} {ds : List D} (h : SqL K H a xs) (p : Dens K H xs ds) : Den K H (.ref a) (.lst ds) :=
  .lst h p.len fun i x d h1 h2 => by obtain ⟨e, h3, r⟩ := p.get1 h1; rw [h2] at h3; cases h3; exact r
/-! data without lists does not feel a list that changes -/
mutual
def noL : D → Bool
  | .lst _ => false
  | .tup ds => noLs ds
  | _ => true
def noLs : List D → Bool
  | [] => true
  | d :: ds => noL d && noLs ds
end
/-! a list or a tuple -/
theorem listLA {p : Addr} {ys : List V} {Q : VK} (h : SqL K H p ys ∨ SqT K H p ys) (g : ∀ l, H l = none → Q (.ref l) (upd H l (.lst ys))) : listL K p H Q := ⟨ys, h, g⟩
/-- a tuple of ints and texts -/
def plainD : V → Option D
  | .non => some .non
  | .bl b => some (.bl b)
  | .int i => some (.int i)
  | .str x => some (.str x)
  | _ => none
end
end L2

set_option Elab.async false
set_option linter.all false
set_option maxRecDepth 100000
set_option maxHeartbeats 1000000
namespace L2
open PySem PySem.Spec PyProof.Rows
section
variable {K : PySem.W.Frag} {H H' : Hp} {x : V} {Q : VK}
def mkT (xs : List V) (H : Hp) (Q : VK) : Prop := xs.length ≤ sizeLine ∧ ∀ p, H p = none → Q (.ref p) (upd H p (.tup xs))
def mkL (xs : List V) (H : Hp) (Q : VK) : Prop := xs.length ≤ sizeLine ∧ ∀ p, H p = none → Q (.ref p) (upd H p (.lst xs))
def wTupE (t : TA) : TE := fun σ H Q => t σ H fun xs H1 => mkT xs H1 Q
def wLstE (t : TA) : TE := fun σ H Q => t σ H fun xs H1 => mkL xs H1 Q
theorem we_tup {X : Cx} {es : List Expr} {t : TA} {pos : Pos} {x1} (h : PA X es t) : PE X (.Tuple es x1 pos) (wTupE t) := pe_tup h
theorem we_lst {X : Cx} {es : List Expr} {t : TA} {pos : Pos} (h : PA X es t) : PE X (.List es pos) (wLstE t) := pe_lst h
theorem tupI {xs : List V} (hz : xs.length ≤ sizeLine) (g : ∀ p H', Same H H' → H p = none → H' p = some (.tup xs) → Q (.ref p) H') : mkT xs H Q :=
  ⟨hz, fun p n => g p _ (.upd n) n upd_same⟩
theorem lstI {xs : List V} (hz : xs.length ≤ sizeLine) (g : ∀ p H', Same H H' → H p = none → H' p = some (.lst xs) → Q (.ref p) H') : mkL xs H Q :=
  ⟨hz, fun p n => g p _ (.upd n) n upd_same⟩
theorem tupLL' {p : Addr} {ys : List V} (h : SqL K H p ys) (g : ∀ p H', Same H H' → H p = none → H' p = some (.tup ys) → Q (.ref p) H') : tupL K p H Q := tupLL h fun p n => g p _ (.upd n) n upd_same
theorem listLA' {p : Addr} {ys : List V} (h : SqL K H p ys ∨ SqT K H p ys) (g : ∀ p H', Same H H' → H p = none → H' p = some (.lst ys) → Q (.ref p) H') : listL K p H Q := listLA h fun p n => g p _ (.upd n) n upd_same
theorem slSeqL' {p : Addr} {xs : List V} {lo hi : Option Int} (h : SqL K H p xs) (g : ∀ p H', Same H H' → H p = none → H' p = some (.lst (cutV xs lo hi)) → Q (.ref p) H') : slSeq K p lo hi H Q := slSeqL h fun p n => g p _ (.upd n) n upd_same
theorem slSeqT' {p : Addr} {xs : List V} {lo hi : Option Int} (h : SqT K H p xs) (hw : ¬ (HT.sIx xs.length 0 lo = 0 ∧ HT.sIx xs.length xs.length hi = xs.length)) (g : ∀ p H', Same H H' → H p = none → H' p = some (.tup (cutV xs lo hi)) → Q (.ref p) H') : slSeq K p lo hi H Q := slSeqT h hw fun p n => g p _ (.upd n) n upd_same
theorem szN {n : Nat} (h : n ≤ 1000000) : n ≤ sizeLine := by rw [sizeLine_eq]; omega
end
end L2
local macro_rules | `(tactic| walk_at "l3sq") => `(tactic| first
  | assumption
  | (show L2.SqT _ _ _ _; first | exact L2.SqT.of (by assumption) | exact L2.Same.seqT (by assumption) (by walk_at "l3sq"))
  | (show L2.SqL _ _ _ _; first | exact L2.SqL.of (by assumption) | exact L2.Same.seq (by assumption) (by walk_at "l3sq"))
  | (show L2.Scr _ _ _ _; exact L2.Scr.via (by assumption) (by walk_at "l3sq"))
  | (show L2.Dens _ _ _ _; exact L2.Dens.via (by assumption) (by walk_at "l3sq"))
  | (show L2.Den _ _ _ _; exact L2.Den.via (by assumption) (by walk_at "l3sq"))
  | (show _ = some _; exact L2.Same.get (by assumption) (by walk_at "l3sq")))
namespace L2
theorem ifNt {c : Prop} [Decidable c] {A B : Prop} (hc : ¬ c) (h : A) : ifB (!decide c) A B := ifN (fun _ => h) (fun z => absurd z hc)
theorem ifNf {c : Prop} [Decidable c] {A B : Prop} (hc : c) (h : B) : ifB (!decide c) A B := ifN (fun z => absurd hc z) (fun _ => h)
end L2
local macro_rules | `(tactic| walk_at "l3gs") => `(tactic| ((conv => whnf); first
  | (show L2.seqAt _ _ _ _ _; first | refine L2.seqAtT (by walk_at "l3sq") rfl ?_ | refine L2.seqAtL (by walk_at "l3sq") rfl ?_)
  | (show L2.seqLen _ _ _ _; first | refine L2.seqLenT (by walk_at "l3sq") ?_ | refine L2.seqLenL (by walk_at "l3sq") ?_)
  | (show L2.unpT _ _ _ _ _; refine L2.unpTI (by walk_at "l3sq") rfl ?_)
  | (show L2.spDraw _ _ _ _ _; refine L2.drawI (by walk_at "l3sq") (by omega) (by omega) (by omega) ?_)
  | (show L2.isiAny _ _ _ _ _; first | refine L2.isiAnyI rfl (.tup (by walk_at "l3sq")) rfl ?_ | refine L2.isiAnyI rfl (.lst (by walk_at "l3sq")) rfl ?_)
  | (show L2.ifB _ _ _; first | refine L2.ifDt (by first | assumption | decide | omega) ?_ | refine L2.ifDf (by first | assumption | decide | omega) ?_ | refine L2.ifNt (by first | assumption | decide | omega) ?_ | refine L2.ifNf (by first | assumption | decide | omega) ?_ | refine L2.ifB_t (by first | assumption | decide) ?_ | refine L2.ifB_f (by first | assumption | decide) ?_)
  | (show L2.tyV _ _ _ _ ∧ _; refine ⟨.inl ⟨rfl, _, by walk_at "l3sq"⟩, ?_⟩)
  | (show L2.CDiv _ _ ∧ _; refine ⟨L2.cdivI (by decide) (by decide), ?_⟩)
  | (show L2.CMul _ _ ∧ _; refine ⟨L2.cmul_l (by first | decide | omega) (by first | decide | omega), ?_⟩)))
local macro_rules | `(tactic| walk_at "l3go") => `(tactic| ((repeat (walk_at "l3gs")); conv => whnf))
local macro_rules | `(tactic| walk_at "l3gc") => `(tactic| (walk_at "l3go"; refine L2.cutE (by walk_at "l3go"; exact ⟨rfl, rfl⟩) ?_))
local macro_rules | `(tactic| walk_at "l3gr") => `(tactic| first | refine L2.ifB_f rfl ?_ | refine L2.ifB_t rfl ?_)
namespace L2
open PySem PySem.Spec PyProof.Rows
section
variable {X : Cx} {K : PySem.W.Frag} {H : Hp} {Q : VK}
/-! () + t is t -/
theorem cat_tup0 {prog : Program} {w : World} {A : Around} {E : Value → Shared → Prop} {s : Shared} {t b : Addr} {ws : List Value} {Q : Value → Shared → Prop} (ht : IsTup s.heap t (#[] : Array Value)) (hb : IsTup s.heap b ws.toArray) (h : Q (.ref b) s) : wpAny (model prog w) A (binaryOp .Add (.ref t) (.ref b)) Q E s := by
  obtain ⟨⟨cls, dd, data, sl⟩, ho, hc, n, hd⟩ := id ht
  obtain ⟨⟨cls2, dd2, data2, sl2⟩, ho2, hc2, n2, hd2⟩ := id hb
  simp only at hc hd hc2 hd2
  subst hc hd hc2 hd2
  exact concat_meets ⟨_, ho, rfl⟩ ⟨_, ho2, rfl⟩ noFill_tuple_add seq_tuple_add PySem.F.slot_tuple_add PySem.F.entry_tuple_add (PySem.F.args_tuple_add_2 _ _) (tuple_addW0 t b #[] ws.toArray n n2 dd dd2 sl sl2 (by simp)) ⟨ho, ho2, h⟩
def rCat0 (K : PySem.W.Frag) : R2 := fun x y H Q => ∃ a b ys, x = .ref a ∧ y = .ref b ∧ SqT K H a [] ∧ SqT K H b ys ∧ Q (.ref b) H
theorem op_cat0 : OpR X (binaryOp .Add) (rCat0 X.K) := by
  intro pins s σ H x y v u Q I rx ry h
  obtain ⟨a, b, ys, rfl, rfl, ha, hb, q⟩ := h
  cases rx
  cases ry
  obtain ⟨its, r1, p1, _⟩ := I.tuple ha
  obtain ⟨its2, r2, p2, _⟩ := I.tuple hb
  cases r1
  exact cat_tup0 p1 p2 ⟨.ref b, H, I, rfl, q⟩
def catB (K : PySem.W.Frag) (p q : Addr) (H : Hp) (Q : VK) : Prop := catA K p q H Q ∨ ∃ ys, SqT K H p [] ∧ SqT K H q ys ∧ Q (.ref q) H
def wAddY (K : PySem.W.Frag) : R2 := fun x y H Q => match x, y with
  | .int i, .int j => Q (.int (i + j)) H
  | .str a, .str b => a.length + b.length ≤ sizeLine ∧ Q (.str (a ++ b)) H
  | .ref p, .ref q => catB K p q H Q
  | _, _ => False
theorem w_addY (hK : X.K = K) : OpR X (binaryOp .Add) (wAddY K) := by
  subst hK
  refine ((w_addX rfl).or op_cat0).imp fun x y H Q h => ?_
  cases x with
  | int i => cases y with
    | int j => exact .inl h
    | _ => exact False.elim h
  | str a => cases y with
    | str b => exact .inl h
    | _ => exact False.elim h
  | ref p => cases y with
    | ref q =>
      rcases h with h | ⟨ys, h1, h2, h3⟩
      · exact .inl h
      · exact .inr ⟨p, q, ys, rfl, rfl, h1, h2, h3⟩
    | _ => exact False.elim h
  | _ => exact False.elim h
theorem catBL {p q : Addr} {xs ys : List V} (h1 : H p = some (.lst xs)) (h2 : H q = some (.lst ys)) (hz : xs.length + ys.length ≤ sizeLine) (g : ∀ l H', Same H H' → H l = none → H' l = some (.lst (xs ++ ys)) → Q (.ref l) H') : catB K p q H Q := .inl (catAL h1 h2 hz fun l n => g l _ (.upd n) n upd_same)
theorem cutV_tail (x : V) (xs : List V) : cutV (x :: xs) (some 1) none = xs := by
  unfold cutV
  have e : HT.sIx (x :: xs).length 0 (some 1) = 1 := by
    rw [show (some (1 : Int)) = some ((1 : Nat) : Int) from rfl, HT.sIx_nat, List.length_cons]; omega
  rw [e, HT.sIx_none, List.length_cons]
  simp
end
end L2

set_option Elab.async false
set_option linter.all false
set_option maxRecDepth 100000
set_option maxHeartbeats 1000000
namespace L2
open PySem PySem.Spec PyProof.Rows
/-! ### f"..." -/
abbrev TJ := Str → St → Hp → (Str → Hp → Prop) → Prop
section
variable {X : Cx} {es : List Expr} {t : TJ} {te : TE} {e : Expr} {pos : Pos}
def PJ (X : Cx) (es : List Expr) (t : TJ) : Prop := ∀ (pins : List (Addr × Obj)) (s : Shared) (σ : St) (H : Hp) (acc : Str) (Q : Str → Hp → Prop), Inv X pins σ H s → t acc σ H Q →
  Joins (model X.prog X.w) X.A X.xe (evalEach es X.env) acc (fun out s1 => ∃ H1, Inv X pins σ H1 s1 ∧ Q out H1) s
def jNil : TJ := fun acc σ H Q => Q acc H
theorem pj_nil : PJ X [] jNil := fun pins s σ H acc Q I h => ⟨H, I, h⟩
def jStr (c : Str) (t : TJ) : TJ := fun acc σ H Q => (acc ++ c).length ≤ sizeLine ∧ t (acc ++ c) σ H Q
theorem pj_str {c : Str} {k : Nat} (h : PJ X es t) : PJ X (.Constant (.str c) k pos :: es) (jStr c t) := fun pins s σ H acc Q I ⟨hz, q⟩ =>
  Joins_cons (Calls.Constant_str ⟨c, _, rfl, hz, h pins _ σ H _ Q (I.tok _) q⟩)
/-- {e} of a text or a whole number -/
def jFmt (te : TE) (t : TJ) : TJ := fun acc σ H Q => te σ H fun x H1 => match x with
  | .str y => y.length ≤ sizeLine ∧ (acc ++ y).length ≤ sizeLine ∧ t (acc ++ y) σ H1 Q
  | .int i => i.natAbs.log2 < 1920 ∧ (acc ++ Str.ofString (toString i)).length ≤ sizeLine ∧ t (acc ++ Str.ofString (toString i)) σ H1 Q
  | _ => False
/-- {e!r} of a text -/
def jRep (te : TE) (t : TJ) : TJ := fun acc σ H Q => te σ H fun x H1 => match x with
  | .str y => (reprText y).length ≤ sizeLine ∧ (acc ++ reprText y).length ≤ sizeLine ∧ t (acc ++ reprText y) σ H1 Q
  | _ => False
theorem pj_rep (he : PE X e te) (h : PJ X es t) : PJ X (.FormattedValue e 114 none pos :: es) (jRep te t) := fun pins s σ H acc Q I q => by
  refine Joins_cons (wpAny_FormattedValue_repr (thn (he pins s σ H _ I q) fun v s1 ⟨x, H1, I1, r1, q1⟩ => ?_))
  cases x with
  | str y =>
    obtain ⟨tk, rfl⟩ := r1
    obtain ⟨z1, z2, q2⟩ := q1
    refine wpAny_pyReprObj_str ?_ z1
    exact wpAny_formatField_str ⟨_, _, rfl, z2, h pins _ σ H1 _ Q (I1.tok _) q2⟩ ⟨_, _, rfl, z2, h pins _ σ H1 _ Q ((I1.tok _).tok _) q2⟩ z1
  | _ => exact False.elim q1
def tJoin (t : TJ) : TE := fun σ H Q => t Str.empty σ H fun out H1 => out.length ≤ sizeLine ∧ Q (.str out) H1
theorem joins_mono {M : Model} {A : Around} {E : Value → Shared → Prop} {Q Q' : Str → Shared → Prop} (i : ∀ o s, Q o s → Q' o s) : ∀ (ps : List (Sem Value)) (acc : Str) (s : Shared), Joins M A E ps acc Q s → Joins M A E ps acc Q' s
  | [], acc, s, h => i acc s h
  | x :: rest, acc, s, h => thn (show wpAny M A x _ E s from h) fun v s1 ⟨y, t, e, z, r⟩ => ⟨y, t, e, z, joins_mono i rest (acc ++ y) s1 r⟩
theorem we_joined {v1 v2 : Expr} (h : PJ X (v1 :: v2 :: es) t) : PE X (.JoinedStr (v1 :: v2 :: es) pos) (tJoin t) := fun pins s σ H Q I q =>
  wpAny_JoinedStr (joins_mono (fun o s1 ⟨H1, I1, z, q1⟩ => ⟨z, .str o, H1, I1.tok _, ⟨_, rfl⟩, q1⟩) _ _ _ (h pins s σ H Str.empty _ I q))
end
/-! the length of a repr -/
def Asc (x : Str) : Prop := ∀ c ∈ x.cps.toList, c < 128
theorem repr_c : ∀ c, c < 128 → (Builtin.Str.reprChar 39 c).length ≤ 4 ∧ (Builtin.Str.reprChar 34 c).length ≤ 4 := by decide +kernel
theorem repr_q (x : Str) : reprQuote x = 39 ∨ reprQuote x = 34 := by
  unfold reprQuote
  split
  · exact .inr rfl
  · exact .inl rfl
theorem repr_fold (q : Nat) (h : ∀ c, c < 128 → (Builtin.Str.reprChar q c).length ≤ 4) : ∀ (cs : List Nat) (n : Nat), (∀ c ∈ cs, c < 128) → cs.foldl (fun n c => n + (Builtin.Str.reprChar q c).length) n ≤ n + 4 * cs.length
  | [], n, _ => Nat.le_refl _
  | c :: cs, n, hc => by
    have h1 := h c (hc c (.head _))
    have h2 := repr_fold q h cs (n + (Builtin.Str.reprChar q c).length) fun d hd => hc d (.tail _ hd)
    rw [List.foldl_cons, List.length_cons]
    omega
theorem repr_len {x : Str} (h : Asc x) : (reprText x).length ≤ 4 * x.length + 2 := by
  rw [← reprLen_eq, ← Array.foldl_toList]
  have h2 := repr_fold (reprQuote x) (fun c hc => by rcases repr_q x with e | e <;> rw [e]; exact (repr_c c hc).1; exact (repr_c c hc).2) x.cps.toList 2 h
  have : x.cps.toList.length = x.length := by simp [Str.length]
  omega
/-! ### any, startswith -/
section
variable {X : Cx} {K : PySem.W.Frag}
def anyL (K : PySem.W.Frag) (a : Addr) (H : Hp) (Q : VK) : Prop := ∃ bs : List Bool, SqL K H a (List.map V.bl bs) ∧ Q (.bl (bs.any _root_.id)) H
def wAny (K : PySem.W.Frag) : List V → Hp → VK → Prop := fun xs H Q => match xs with | [.ref a] => anyL K a H Q | _ => False
def startsB (x y : Str) : Bool := decide (0 + y.length ≤ x.length) && Builtin.Str.subAt x y 0
def wStarts : V → List V → Hp → VK → Prop := fun x xs H Q => match x, xs with | .str z, [.str y] => Q (.bl (startsB z y)) H | _, _ => False
end
end L2

set_option Elab.async false
set_option linter.all false
set_option maxRecDepth 100000
set_option maxHeartbeats 1000000
namespace L2
open PySem PySem.Spec PyProof.Rows
def clsAt : Stmt → Nat → Stmt
  | .ClassDef _ _ _ body _ _ _ _ _ _ _, j => body.getD j (.Pass ⟨0, 0, 0, 0⟩)
  | s, _ => s
structure InsK (K : PySem.W.Frag) (C : Addr) : Prop where
  cl : Cls K C
  ha : PySem.W.findIn K (.ref C) "__class__" = some (some (.builtin "object.__class__"))
  hn : PySem.W.specialIn K (.builtin "object.__class__") "__get__" = some (some (.builtin "getset_descriptor.__get__"))
  htk : PySem.W.takesIn K (.builtin "object.__class__") = some true
  hm : PySem.W.mroIn K C (.type "object") = some true
/-- C() of a class without __init__ -/
structure Mk0 (K : PySem.W.Frag) (C : Addr) : Prop where
  makes : PySem.W.makesIn K C = true
  init : PySem.W.findIn K (.ref C) "__init__" = some (some (.builtin "object.__init__"))
  kp : PySem.W.keepIn K (.ref C) = true
section
variable {X : Cx} {C : Addr} {x : Str} {p pos : Pos}
def tMk0 (C : Addr) : TE := fun _ H Q => ∀ a dx, H a = none → H dx = none → dx ≠ a → Q (.ref a) (upd (upd H dx (.own a)) a (.ins C dx []))
end
end L2

set_option Elab.async false
set_option linter.all false
set_option maxRecDepth 100000
set_option maxHeartbeats 1000000
namespace L2
open PySem PySem.Spec PyProof.Rows
/-! ### x in a list or tuple of data -/
def absU : Value → Option V
  | .none => some .non
  | .bool b => some (.bl b)
  | .int i _ => some (.int i)
  | .str x _ => some (.str x)
  | .bytes b _ => some (.byt b)
  | .float b _ => some (.flt b)
  | .ref a => some (.ref a)
  | .type n => some (.ty n)
  | _ => none
theorem absU_of {x : V} {u : Value} (h : RelV x u) : absU u = some x := by
  cases x with
  | non => cases h; rfl
  | bl b => cases h; rfl
  | int i => obtain ⟨t, rfl⟩ := h; rfl
  | str i => obtain ⟨t, rfl⟩ := h; rfl
  | byt i => obtain ⟨t, rfl⟩ := h; rfl
  | flt i => obtain ⟨t, rfl⟩ := h; rfl
  | ref i => cases h; rfl
  | ty i => cases h; rfl
theorem relV_inj {x y : V} {u : Value} (h : RelV x u) (h' : RelV y u) : x = y := by
  have e := (absU_of h).symm.trans (absU_of h')
  exact Option.some.inj e
section
variable {X : Cx} {K : PySem.W.Frag}
open Classical in
noncomputable def eqUD (K : PySem.W.Frag) (H : Hp) (e : D) (u : Value) : Bool := if h : ∃ d, ∃ x, RelV x u ∧ Den K H x d then eqD h.choose e else false
theorem eqUD_of {pins : List (Addr × Obj)} {σ : St} {H : Hp} {s : Shared} (I : Inv X pins σ H s) {e d : D} {x : V} {u : Value} (r : RelV x u) (h : Den X.K H x d) : eqUD X.K H e u = eqD d e := by
  have hx : ∃ d, ∃ x, RelV x u ∧ Den X.K H x d := ⟨d, x, r, h⟩
  unfold eqUD
  rw [dif_pos hx]
  obtain ⟨y, ry, dy⟩ := hx.choose_spec
  have := relV_inj r ry
  subst this
  rw [Den.inj I dy h]
theorem any_eqUD {pins : List (Addr × Obj)} {σ : St} {H : Hp} {s : Shared} (I : Inv X pins σ H s) {e : D} : ∀ {xs : List V} {ds : List D} {us : List Value}, Vals xs us → Dens X.K H xs ds → us.any (eqUD X.K H e) = ds.any fun d => eqD d e
  | _, _, _, .nil, .nil => rfl
  | _, _, _, .cons r t, .cons h p => by rw [List.any_cons, List.any_cons, eqUD_of I r h, any_eqUD I t p]
theorem mem_eqAtD {pins : List (Addr × Obj)} {σ : St} {H : Hp} {s : Shared} {A : Around} (I : Inv X pins σ H s) {y : V} {e : D} {v : Value} (ry : RelV y v) (hy : Den X.K H y e) : ∀ {xs : List V} {ds : List D} {us : List Value}, Vals xs us → Dens X.K H xs ds → (∀ d ∈ ds, A.units + dep d < cLine) → ∀ u ∈ us, SeqAt.EqAt A s u v (eqUD X.K H e u)
  | _, _, _, .nil, _, _ => fun u hu => by cases hu
  | _, _, _, .cons r t, .cons h p, hd => fun u' hu => by
    rcases List.mem_cons.mp hu with rfl | hu
    · rw [eqUD_of I r h]; exact eqAt_den I h hy r ry (hd _ (.head _))
    · exact mem_eqAtD I ry hy t p (fun d hd' => hd d (.tail _ hd')) u' hu
def rInD (K : PySem.W.Frag) : R2 := fun x y H Q => ∃ p xs ds e, y = .ref p ∧ (SqL K H p xs ∨ SqT K H p xs) ∧ Dens K H xs ds ∧ Den K H x e ∧ (∀ d ∈ ds, dep d ≤ 50) ∧ Q (.bl (ds.any fun d => eqD d e)) H
theorem op_inD {m : Nat} (hr : Room m X.A) : OpR X (compareOp .In) (rInD X.K) := by
  intro pins s σ H x y v u Q I rx ry h
  obtain ⟨p, xs, ds, e, rfl, hq, dx, de, hd, q⟩ := h
  cases ry
  have hu : ∀ d ∈ ds, X.A.units + 1 + dep d < cLine := fun d hm => by have := hr.un; have := hd d hm; omega
  have hu0 : ∀ d ∈ ds, X.A.units + dep d < cLine := fun d hm => by have := hu d hm; omega
  rcases hq with hq | hq
  · obtain ⟨its, r, pl, hz⟩ := I.list hq
    refine SeqAt.in_listAt (eqUD X.K H e) pl.isList (fun w hw => mem_eqAtD I rx de r dx (by first | exact hu0 | exact hu) w (by simpa using hw)) ⟨.bl _, H, I, rfl, ?_⟩
    rw [show its.toArray.any (eqUD X.K H e) = its.any (eqUD X.K H e) by simp, any_eqUD I r dx]
    exact q
  · obtain ⟨its, r, pl, hz⟩ := I.tuple hq
    refine SeqAt.in_tupleAt (eqUD X.K H e) pl (fun w hw => mem_eqAtD I rx de r dx (by first | exact hu0 | exact hu) w (by simpa using hw)) ⟨.bl _, H, I, rfl, ?_⟩
    rw [show its.toArray.any (eqUD X.K H e) = its.any (eqUD X.K H e) by simp, any_eqUD I r dx]
    exact q
def seqInD (K : PySem.W.Frag) (x : V) (p : Addr) (H : Hp) (Q : VK) : Prop := ∃ xs ds e, (SqL K H p xs ∨ SqT K H p xs) ∧ Dens K H xs ds ∧ Den K H x e ∧ (∀ d ∈ ds, dep d ≤ 50) ∧ Q (.bl (ds.any fun d => eqD d e)) H
def wInD (K : PySem.W.Frag) : R2 := fun x y H Q => match y with | .ref p => seqInD K x p H Q | _ => False
theorem w_inD {m : Nat} (hK : X.K = K) (hr : Room m X.A) : OpR X (compareOp .In) (wInD K) := by
  subst hK
  refine (op_inD hr).imp fun x y H Q h => ?_
  unfold wInD at h
  split at h
  · obtain ⟨xs, ds, e, h1, h2, h3, h4, h5⟩ := h; exact ⟨_, xs, ds, e, rfl, h1, h2, h3, h4, h5⟩
  · exact h.elim
theorem seqInDL {x : V} {p : Addr} {H : Hp} {Q : VK} {xs : List V} {ds : List D} {e : D} (h : SqL K H p xs) (h1 : Dens K H xs ds) (h2 : Den K H x e) (h3 : ∀ d ∈ ds, dep d ≤ 50) (g : Q (.bl (ds.any fun d => eqD d e)) H) : seqInD K x p H Q := ⟨xs, ds, e, .inl h, h1, h2, h3, g⟩
end
end L2

set_option Elab.async false
set_option linter.all false
set_option maxRecDepth 100000
set_option maxHeartbeats 1000000
namespace L2
open PySem PySem.Spec PyProof.Rows
/-! ### C(..) whose __init__ may raise: in a try, and where it doesn't -/
section
variable {X : Cx} {x : Str} {p pos : Pos} {e : Expr} {es : List Expr} {t : TA} {ps : List Str} {sp : Sp} {n m : Nat} {E : XK} {C : Addr}
def noE : XK := fun _ _ _ => False
end
end L2
namespace L2
open PySem PySem.Spec PyProof.Rows
section
variable {X : Cx} {CX : CXT} {o e : Expr} {es : List Expr} {to : TE} {t : TA} {m : Str} {apos pos : Pos} {n k : Nat} {E : XK} {P : Program} {w : World} {K : PySem.W.Frag} {mg : Str → Option Value} {base : Heap}
end
end L2

set_option Elab.async false
set_option linter.all false
set_option maxRecDepth 100000
set_option maxHeartbeats 1000000
namespace L2
open PySem PySem.Spec PyProof.Rows
/-! ### the codes of a slice of a text -/
theorem ix_take (xs : Array Nat) (a : Nat) : ∀ m, a + m ≤ xs.size → ((List.range m).map fun k => a + k).filterMap (fun i => xs[i]?) = (xs.toList.drop a).take m
  | 0, _ => by simp
  | m + 1, h => by
    have ih := ix_take xs a m (by omega)
    rw [List.range_succ, List.map_append, List.filterMap_append, ih, List.take_succ, List.getElem?_drop, Array.getElem?_toList]
    have : a + m < xs.size := by omega
    simp [Array.getElem?_eq_getElem this]
theorem range_codes {start stop : Int} {n : Nat} {x : Str} (hn : x.length = n) (h0 : 0 ≤ start) (h1 : start ≤ stop) (h2 : stop ≤ n) : (sliceRange start stop 1).filterMap (fun i => x.cps[i]?) = (x.cps.toList.drop start.toNat).take (stop - start).toNat ∧ (sliceRange start stop 1).length = (stop - start).toNat := by
  have e : sliceRange start stop 1 = (List.range (stop - start).toNat).map fun k => start.toNat + k := by
    unfold sliceRange
    simp only [show (1 : Int) > 0 by decide, if_true]
    have c : (if start < stop then (stop - start + 1 - 1) / 1 else 0) = stop - start := by split <;> omega
    rw [c]
    refine List.map_congr_left fun k _ => ?_
    omega
  have hs : x.cps.size = n := hn
  rw [e]
  exact ⟨ix_take x.cps start.toNat _ (by omega), by simp⟩
theorem slice_codes {x : Str} {l u : Option Int} {start stop : Int} (hi : Builtin.Str.strSliceIndices l u 1 x.length = sliceRange start stop 1) (h0 : 0 ≤ start) (h1 : start ≤ stop) (h2 : stop ≤ x.length) : (Txt.slice x l u).cps.toList = (x.cps.toList.drop start.toNat).take (stop - start).toNat := by
  obtain ⟨r1, r2⟩ := range_codes (x := x) rfl h0 h1 h2
  unfold Txt.slice
  rw [hi]
  split
  · rename_i h
    have h3 : (stop - start).toNat = x.length := by simpa [r2] using h
    have h4 : start.toNat = 0 := by omega
    rw [h4, List.drop_zero, h3, List.take_of_length_le (by rw [len_codes]; exact Nat.le_refl _)]
  · exact r1
theorem slice_to {x : Str} {n : Int} (h : 0 ≤ n) : (Txt.slice x none (some n)).cps.toList = x.cps.toList.take n.toNat := by
  by_cases hn : n ≤ x.length
  · rw [slice_codes (start := 0) (stop := n) ?_ (by decide) h hn]
    · simp
    · unfold Builtin.Str.strSliceIndices
      simp only [show (1 : Int) > 0 by decide, if_true, if_neg (show ¬ n < 0 by omega)]
      congr 1
      omega
  · rw [slice_codes (start := 0) (stop := x.length) ?_ (by decide) (by omega) (Int.le_refl _)]
    · rw [List.take_of_length_le (by rw [List.length_drop, len_codes]; omega), List.take_of_length_le (by rw [len_codes]; omega)]; rfl
    · unfold Builtin.Str.strSliceIndices
      simp only [show (1 : Int) > 0 by decide, if_true, if_neg (show ¬ n < 0 by omega)]
      congr 1
      omega
theorem slice_from {x : Str} {n : Int} (h : 0 ≤ n) : (Txt.slice x (some n) none).cps.toList = x.cps.toList.drop n.toNat := by
  by_cases hn : n ≤ x.length
  · rw [slice_codes (start := n) (stop := x.length) ?_ h hn (Int.le_refl _)]
    · rw [List.take_of_length_le (by rw [List.length_drop, len_codes]; omega)]
    · unfold Builtin.Str.strSliceIndices
      simp only [show (1 : Int) > 0 by decide, if_true, if_neg (show ¬ n < 0 by omega)]
      congr 1
      omega
  · rw [slice_codes (start := x.length) (stop := x.length) ?_ (by omega) (Int.le_refl _) (Int.le_refl _)]
    · rw [show ((x.length : Int) - x.length).toNat = 0 by omega, List.take_zero, List.drop_of_length_le (by rw [len_codes]; omega)]
    · unfold Builtin.Str.strSliceIndices
      simp only [show (1 : Int) > 0 by decide, if_true, if_neg (show ¬ n < 0 by omega)]
      congr 1
      omega
theorem app_codes (x y : Str) : (x ++ y).cps.toList = x.cps.toList ++ y.cps.toList := by
  show (x.cps ++ y.cps).toList = _
  simp
theorem str_ext {x y : Str} (h : x.cps.toList = y.cps.toList) : x = y := by
  cases x; cases y
  congr 1
  exact Array.toList_inj.mp h
end L2

set_option Elab.async false
set_option linter.all false
set_option maxRecDepth 100000
set_option maxHeartbeats 1000000
namespace L2
open PySem PySem.Spec PyProof.Rows
/-! ### "..", t.replace("..", "..") in a list: the tokens of the two texts are new -/
section
variable {X : Cx} {es : List Expr} {t : TA} {x c y z : Str}
def PAt (X : Cx) (es : List Expr) (t : TA) : Prop :=
  ∀ (pos : Pos) (pins : List (Addr × Obj)) (s : Shared) (σ : St) (H : Hp) (Q : List V → Hp → Prop), 0 < s.toks → Inv X pins σ H s → t σ H Q → wpAny (model X.prog X.w) X.A (spliced (backTo pos (starEach es X.env))) (AP X pins σ Q) X.xe s
def repV (s y z : Str) : Str := if ((Builtin.Str.occurrences s y 0 s.length (s.length + 1)).isEmpty || (y.length == 0 && z.length == 0)) = true then s else Builtin.Str.glued z (Builtin.Str.partsBetween s (Builtin.Str.occurrences s y 0 s.length (s.length + 1)) y.length)
def wRep (i : Nat) (y z : Str) : TE := fun σ H Q => match σ[i]? with
  | some (some (.str s)) => (y == z) = false ∧ Builtin.Str.tooLong (s.length + (Builtin.Str.occurrences s y 0 s.length (s.length + 1)).length * z.length) = false ∧ (repV s y z).length ≤ sizeLine ∧ Q (.str (repV s y z)) H
  | _ => False
end
end L2

set_option Elab.async false
set_option linter.all false
set_option maxRecDepth 100000
set_option maxHeartbeats 1000000
namespace L2
open PySem PySem.Spec PyProof.Rows PySem.W

/-! ### own exceptions with an __init__ of their own -/
def excJ (K : Frag) (C : Addr) (bmB : List Value) (newId : String) : Bool := match K.lookup C with
  | some ⟨.type "type", _, .cls cd, sl⟩ => (match cd.mro, sl.toList with
    | .ref C' :: bm, [_, _, _, _, some (.builtin n), _] => C' == C && n == newId && !cd.hasDel && tailIn K bmB bm && nsOkIn K cd.ns && cd.hasDict
    | _, _ => false)
  | _ => false
theorem excJ_obj {K : Frag} {h : Heap} {C : Addr} {bmB : List Value} {newId : String} (X : K.In h) (q : excJ K C bmB newId = true) :
    ∃ bm N nm q bs sn sub ab col dd k0 k1 k2 k3 k5 mN cd, h.get? C = some (excClassObj nm q C N bs bm true sn sub ab col dd k0 k1 k2 k3 k5 newId) ∧ h.Ns N mN ∧ OwnTail h bmB bm ∧ (∀ v b, mroIn K C v = some b → (Value.ref C :: bm).contains v = b) ∧
      clsIn K C = some cd ∧ cd.mro = .ref C :: bm ∧ cd.hasDict = true := by
  unfold excJ at q
  split at q
  case h_2 => cases q
  case h_1 dd cd sl ho =>
    split at q
    case h_2 => cases q
    case h_1 C' bm k0 k1 k2 k3 n k5 hm hs =>
      simp only [Bool.and_eq_true, beq_iff_eq, Bool.not_eq_true'] at q
      obtain ⟨⟨⟨⟨⟨e1, e2⟩, hdel⟩, ht⟩, hok⟩, hdi⟩ := q
      subst e1 e2
      obtain ⟨nm, bs, mro, ns, qn, hd, sn, sub, ab, col, del⟩ := cd
      dsimp only at hm hdel hok hdi
      subst hm hdel hdi
      obtain ⟨l⟩ := sl
      simp only at hs
      subst hs
      obtain ⟨cd', hcl, hmr, hhd⟩ : ∃ cd', clsIn K C' = some cd' ∧ cd'.mro = .ref C' :: bm ∧ cd'.hasDict = true := ⟨{ name := nm, bases := bs, mro := .ref C' :: bm, ns := ns, qualname := qn, slotNames := sn, subclasses := sub, abstract := ab, collection := col }, by unfold clsIn; rw [ho], rfl, rfl⟩
      refine ⟨bm, ns, nm, qn, bs, sn, sub, ab, col, dd, k0, k1, k2, k3, k5, _, cd', X _ _ ho, .of_isNs (isNs_of_in X hok), tail_of_in X ht, fun v b e => ?_, hcl, hmr, hhd⟩
      unfold mroIn clsIn at e
      rw [ho] at e
      simpa using e
abbrev VEs : List Value := [.type "ValueError", .type "Exception", .type "BaseException", .type "object"]
section
variable {prog : Program} {w : World} {A : Around} {E : Value → Shared → Prop} {K : Frag} {C f : Addr}
theorem type_call_excJ {h : Heap} {g : Array GenState} {d : Drawn} {t : Nat} {os : OsState} {rest : List Value} {Q : Fin → Shared → Prop} (X : K.In h) (q : excJ K C VEs "ValueError.__new__" = true) (hi : findIn K (.ref C) "__init__" = some (some (.ref f))) (hf : isFn K (.ref f) = true)
    (hq : ∀ h' e, Heap.MadeExcOf h h' e (.ref C) rest →
      wpAny (model prog w) A (call (.ref f) (.ref e :: rest)) (fun r s' => r = .none ∧ Q (.done (.ret (.ref e))) s') E ⟨h', g, d, t, os⟩) (hrest : rest.length ≤ sizeLine) :
    wpAny (model prog w) A (Builtin.«type.__call__» ⟨.ref C :: rest, []⟩) Q E ⟨h, g, d, t, os⟩ := by
  obtain ⟨bm, N, nm, q', bs, sn, sub, ab, col, dd, k0, k1, k2, k3, k5, mN, cd, hC, hn, T, _, _⟩ := excJ_obj X q
  have F := PySem.F.excBase_ValueError
  have hBn : VEs.contains (.type "ValueError") = true := by decide +kernel
  repeat (first | with_reducible refine wpAny_loadPart_at hC ?_ | with_reducible refine wpAny_madeBy_exc hC ?_ | wp_step)
  refine codeAny_call_builtin_code (Code.quiet_builtin _ F.quiet) (wpAny_check_new_subU F hBn T hC ?_)
  refine codeAny_exc_new_subU F hBn F T hC ?_ hrest
  show wpAny _ _ _ _ _ _
  have kk : ∀ b o, h.get? b = some o → ((h.push { cls := .type "tuple", data := .seq rest.toArray }).push { cls := .ref C, data := .fields #[.ref h.objs.size, .none, .none, .none, .bool false, .none] }).get? b = some o :=
    fun b o e => Heap.get?_push_of_some _ (Heap.get?_push_of_some _ e)
  have hC₁ := kk _ _ hC
  have X₁ := X.keeps kk
  have hget : ((h.push { cls := .type "tuple", data := .seq rest.toArray }).push
      { cls := .ref C, data := .fields #[.ref h.objs.size, .none, .none, .none, .bool false, .none] }).get? (h.objs.size + 1) = some
      { cls := .ref C, data := .fields #[.ref h.objs.size, .none, .none, .none, .bool false, .none] } := by heap_get
  have hcC : (Value.ref C :: bm).contains (.ref C) = true := by simp
  unfold isInstance
  repeat (first | with_reducible refine wpAny_loadPart_at hget ?_ | (with_reducible refine wpAny_isSubtype_exc hC₁ ?_; rw [hcC]) | wp_step)
  show wpAny _ _ (typeLookup (.ref C) _) _ _ _
  refine (looks_findIn X₁ hi).here ?_
  refine wpAny_holding (wpAny_bind ?_)
  refine (bind_fn X₁ _ (beq_iff_eq.mp hf)).here ?_
  refine wpAny_bind (wpAny_mono (hq _ (h.objs.size + 1) ⟨kk, Heap.get?_none_of_le (Nat.le_succ _), h.objs.size, hget, Heap.get?_none_of_le (Nat.le_refl _), ?_⟩) (fun r s' hr => ?_) fun _ _ x => x)
  · exact Heap.get?_push_of_some _ (Heap.get?_push_at rfl rfl)
  · obtain ⟨rfl, hQ⟩ := hr
    wp_walk
    exact hQ
theorem call_excJ {s : Shared} {rest : List Value} {Q : Value → Shared → Prop} (X : K.In s.heap) (q : excJ K C VEs "ValueError.__new__" = true) (hi : findIn K (.ref C) "__init__" = some (some (.ref f))) (hf : isFn K (.ref f) = true)
    (hq : ∀ h' e, Heap.MadeExcOf s.heap h' e (.ref C) rest →
      wpAny (model prog w) (A.under (.builtin "type.__call__" ⟨.ref C :: rest, []⟩)) (call (.ref f) (.ref e :: rest)) (fun r s' => r = .none ∧ Q (.ref e) s') E { s with heap := h' }) (hrest : rest.length ≤ sizeLine) :
    wpAny (model prog w) A (call (.ref C) rest) Q E s := by
  obtain ⟨h, g, d, t, os⟩ := s
  obtain ⟨bm, N, nm, q', bs, sn, sub, ab, col, dd, k0, k1, k2, k3, k5, mN, cd, hC, hn, T, _, _⟩ := excJ_obj X q
  have f1 := tc_lookup
  have f2 := tc_bind (.ref C)
  have hT : (⟨h, g, d, t, os⟩ : Shared).TypeIs (.ref C) "type" := ⟨_, hC, rfl⟩
  refine wpAny_call (codeAny_of_tree ?_)
  show wpAny _ _ (callAny (.ref C) _) _ _ _
  repeat (any_goals (first | assumption | with_reducible refine wpAny_loadPart_at hC ?_ | wp_step))
  refine ⟨rfl, ?_⟩
  refine codeAny_call_builtin_at (Code.quiet_builtin _ (by decide +kernel)) entry_typeCall (wpAny_check_type_call_sub hC (type_call_excJ X q hi hf (fun h' e hm => ?_) hrest))
  exact hq h' e hm
end
/-! ### a new exception, while its __init__ runs -/
def excN (a : Addr) (cls : Value) (dd : Option Addr) : HO := .ext fun h => ∃ oe vs, h.get? a = some oe ∧ oe.cls = cls ∧ oe.dict = dd ∧ oe.data = .fields vs ∧ vs[1]? = some .none ∧ vs[2]? = some .none
theorem excN_ok {P : Program} {w : World} {H : Hp} {h : Heap} {a : Addr} {cls : Value} {dd : Option Addr} {oe : Obj} {vs : Array Value} (h1 : h.get? a = some oe) (h2 : oe.cls = cls) (h3 : oe.dict = dd) (h4 : oe.data = .fields vs) (h5 : vs[1]? = some .none) (h6 : vs[2]? = some .none) : ObjOk P w H h a (excN a cls dd) :=
  ⟨⟨oe, vs, h1, h2, h3, h4, h5, h6⟩, ⟨_, h1⟩, fun g1 g2 ⟨oe, vs, k1, k2⟩ st => ⟨oe, vs, st _ k1, k2⟩⟩
/-- what the base class must have to be called B.__init__(self, ..) -/
structure BaseI (K : Frag) (B : Addr) : Prop where
  rd : readsIn K B (.type "type") = true
  at_ : findCls K (.ref B) (.type "type") "__init__" = some (.val (.builtin "ValueError.__init__"))
  ga : specialIn K (.ref B) "__getattribute__" = some (some (.builtin "type.__getattribute__"))
theorem upd_eq_self {H : Hp} {a : Addr} {o : HO} (e : H a = some o) : upd H a o = H := by
  funext b
  by_cases z : b = a
  · rw [z, upd_same, e]
  · rw [upd_ne z]
def initAt (K : Frag) (vs : List V) (H : Hp) (R : Hp → Prop) : Prop := ∃ a v C, vs = [.ref a, v] ∧ H a = some (excN a (.ref C) none) ∧ excJ K C VEs "ValueError.__new__" = true ∧ R H
def tBInit (K : Frag) (t : TA) : TE := fun σ H Q => t σ H fun vs H1 => initAt K vs H1 fun H2 => Q .non H2
section
variable {X : Cx} {B : Addr} {x : Str} {np apos pos : Pos} {e1 e2 : Expr} {t : TA}
theorem binit_run {A : Around} {pins : List (Addr × Obj)} {σ : St} {H : Hp} {s : Shared} {Q : Value → Shared → Prop} {E : Value → Shared → Prop} {a C : Addr} {us : List Value} (I : Inv X pins σ H s) (ea : H a = some (excN a (.ref C) none)) (q : excJ X.K C VEs "ValueError.__new__" = true) (hz : us.length ≤ 1000)
    (h : ∀ s', Inv X pins σ H s' → Q .none s') : wpAny (model X.prog X.w) A (call (.builtin "ValueError.__init__") (.ref a :: us)) Q E s := by
  have F := PySem.F.excBase_ValueError
  obtain ⟨bm, N, nm, q', bs, sn, sub, ab, col, dd, k0, k1, k2, k3, k5, mN, cd, hC, hn, T, _, _⟩ := excJ_obj I.kIn q
  obtain ⟨⟨oe, vs, g1, g2, g3, g4, g5, g6⟩, _⟩ := I.hok a _ ea
  obtain ⟨hh, g, d, tk, os⟩ := s
  refine wpAny_call (codeAny_call_builtin F.init.plain F.initEntry (wpAny_check_init_subU F T hC g1 g2 ?_))
  wp_walk
  rw [if_neg (show ¬ (us.toArray.size > sizeLine) by rw [sizeLine_eq]; simp; omega)]
  wp_walk
  rw [g4]
  refine wpAny_pure ?_
  have sz : 1 < vs.size := (Array.getElem?_eq_some_iff.mp g5).1
  have sz0 : 0 < vs.size := by omega
  rw [Array.getElem?_eq_getElem sz0]
  refine wpAny_pure (wpAny_bind ?_)
  have e1 : (hh.push { cls := Value.type "tuple", data := Data.seq us.toArray }).get? a = some oe := Heap.get?_push_of_some _ g1
  refine wpAny_setField e1 g4 sz0 ?_
  have fin : ∀ (s' : Shared), Inv X pins σ H s' → wpAny (model X.prog X.w) A.in1 (ret Value.none) (fun fin s' => match fin with
    | Fin.done f => (match (Except.ok f : Result) with | Except.ok (Flow.ret v) => Q v s' | Except.ok a => False | Except.error e => E e s')
    | Fin.again c' => c'.quiet = true ∧ codeAny (model X.prog X.w) A c' (fun r s' => match r with | Except.ok (Flow.ret v) => Q v s' | Except.ok a => False | Except.error e => E e s') s')
    (fun e s' => match (Except.error e : Result) with | Except.ok (Flow.ret v) => Q v s' | Except.ok a => False | Except.error e => E e s') s' := fun s' J => wpAny_pure (h s' J)
  have J : Inv X pins σ H { heap := (hh.push { cls := Value.type "tuple", data := Data.seq us.toArray }).update a (Obj.mapFields (·.setIfInBounds 0 (Value.ref hh.objs.size))), gens := g, drawn := d, toks := tk, os := os } := by
    have hd₃ := Obj.data_mapFields g4 (·.setIfInBounds 0 (Value.ref hh.objs.size))
    have he₃ := Heap.get?_update_self (Obj.mapFields (·.setIfInBounds 0 (Value.ref hh.objs.size))) e1 (Obj.isFreed_of_fields hd₃)
    have J := I.write (x := a) (e := a) (o := excN a (.ref C) none) (h' := (hh.push { cls := Value.type "tuple", data := Data.seq us.toArray }).update a (Obj.mapFields (·.setIfInBounds 0 (Value.ref hh.objs.size)))) (t' := tk) (by rw [ea]; exact True.intro) (.inl rfl)
      (fun b u hb z => by rw [Heap.get?_update_other _ _ (Ne.symm hb)]; exact Heap.get?_push_of_some _ z) ⟨_, he₃⟩
      (excN_ok he₃ ((Obj.cls_mapFields _ _).trans g2) (by rw [mapF_eq g4]; exact g3) hd₃ (by rw [Array.getElem?_setIfInBounds_ne (by decide)]; exact g5) (by rw [Array.getElem?_setIfInBounds_ne (by decide)]; exact g6))
    rw [upd_eq_self ea] at J
    exact J
  split
  · exact wpAny_letGo (fin _ J)
  · exact wpAny_pure (fin _ J)
end
end L2
namespace L2
open PySem PySem.Spec PyProof.Rows PySem.W
section
variable {X : Cx} {B : Addr} {x : Str} {np apos pos : Pos} {e1 : Expr} {es : List Expr} {t : TA}
/-- B.__init__(self, ..) -/
theorem pe_binit {K : Frag} (hK : X.K = K) (M : BaseI K B) (hg : Gl X x) (hm : X.mg x = some (.ref B)) (ha : PA X (e1 :: es) t) (hdb : (x == ("__debug__" : Str)) = false := by decide) (hp : plainAll (e1 :: es) = true := by rfl) (hl : (e1 :: es).length < 29 := by decide) (hline : (apos.endLine == pos.line) = true := by rfl) :
    PE X (.Call (.Attribute (.Name x np) "__init__" apos) (e1 :: es) [] pos) (tBInit K t) := by
  subst hK
  have h' : (notStar e1 && plainAll es) = true := hp
  rw [Bool.and_eq_true] at h'
  intro pins s σ H Q I h
  refine meth_call rfl hp hl hline (ld_glob I hg hm ?_ hdb)
  refine method_cls I.kIn M.ga (cls_value I.kIn M.rd M.at_ rfl ?_)
  have I1 := I.tok (s.toks + 1)
  have he := starEach_c (env := X.env) (es := es) h'.1
  have hpl : (backTo pos (starEach es X.env)).any (·.1) = false := plain_any h'.2
  have hA := ha pos pins _ σ H _ I1 h
  rw [he] at hA ⊢
  refine Calls.callWith_builtin (by show (false || (backTo pos (starEach es X.env)).any (·.1)) = false; rw [hpl]; rfl) (Calls.evalArgs_plain (thn hA fun us s2 ⟨vs, H2, I2, r, q2⟩ => ?_))
  obtain ⟨a, v, C, rfl, ea, j, q⟩ := q2
  cases r with | cons r1 r2 => cases r2 with | cons r2 r3 =>
  cases r3
  obtain rfl : _ = Value.ref a := r1
  exact binit_run I2 ea j (by simp) fun s' J => ⟨.non, H2, J, rfl, q⟩
end
/-! ### self.f = v, of a new exception -/
theorem OwnTail.refuse {h : Heap} {bmB bm : List Value} (T : OwnTail h bmB bm) (self : Value) (what : Str) : refuseLoop self what bm = refuseLoop self what bmB := by
  induction T with
  | base => rfl
  | own _ _ _ _ ih => rw [refuseLoop_ref]; exact ih
def xputAt (K : Frag) (f : Str) (a : Addr) (y : V) (H : Hp) (R : Hp → Prop) : Prop := ∃ C, H a = some (excN a (.ref C) none) ∧ excJ K C VEs "ValueError.__new__" = true ∧ findIn K (.ref C) "__setattr__" = some (some (.builtin "object.__setattr__")) ∧ findIn K (.ref C) f = some none ∧ mroIn K C (.type "object") = some true ∧
  ∀ d, H d = none → d ≠ a → R (upd (upd H a (excN a (.ref C) (some d))) d (.xd [(f, y)]))
def tXPut (K : Frag) (f : Str) (to tv : TE) : TS := fun D σ H => tv σ H fun y H1 => to σ H1 fun x H2 => match x with | .ref a => xputAt K f a y H2 fun H3 => D.nx σ H3 | _ => False
section
variable {X : Cx} {o value : Expr} {to tv : TE} {f : Str} {pos pos' : Pos}
theorem xset {A : Around} {pins : List (Addr × Obj)} {σ : St} {H : Hp} {s : Shared} {Q : Unit → Shared → Prop} {E : Value → Shared → Prop} {a C : Addr} {y : V} {u : Value} (I : Inv X pins σ H s) (ea : H a = some (excN a (.ref C) none)) (q : excJ X.K C VEs "ValueError.__new__" = true)
    (hs : findIn X.K (.ref C) "__setattr__" = some (some (.builtin "object.__setattr__"))) (hn : findIn X.K (.ref C) f = some none) (hO : mroIn X.K C (.type "object") = some true) (ry : RelV y u)
    (h : ∀ d s', H d = none → d ≠ a → Inv X pins σ (upd (upd H a (excN a (.ref C) (some d))) d (.xd [(f, y)])) s' → Q () s') : wpAny (model X.prog X.w) A (setAttr (.ref a) f u) Q E s := by
  obtain ⟨bm, N, nm, q', bs, sn, sub, ab, col, dd, k0, k1, k2, k3, k5, mN, cd, hC, hN, T, _, hcl, hmr, hhd⟩ := excJ_obj I.kIn q
  obtain ⟨⟨oe, vs, g1, g2, g3, g4, g5, g6⟩, _⟩ := I.hok a _ ea
  have IA : InstAt s.heap a oe C none := ⟨g1, g2, by unfold notCls; rw [g4], by rw [g3]; trivial⟩
  refine set_plain I.kIn IA hs ?_
  have SF := PySem.F.store_object
  have Xk := I.kIn
  have sub : Looks (model X.prog X.w) s.heap (isInstance (.ref a) (.type "object")) true := IA.type.andThen (looks_mroIn Xk hO)
  have hm : Looks (model X.prog X.w) s.heap (mroOf (.ref C)) cd.mro := (looks_clsIn Xk hcl).andThen .now
  refine codeAny_call_builtin SF.slot.plain SF.entry (@check_slot (model X.prog X.w) _ _ { s with toks := s.toks + 1 } "object.__setattr__" "object" "__setattr__" (.ref a) [.str f s.toks, u] [] _ SF.kind SF.split sub (SF.args (.ref a) (.str f s.toks) u) ?_)
  rw [osa_eq, refuse_eq]
  refine wpAny_bind (wpAny_bind (Looks.here (s := { s with toks := s.toks + 1 }) IA.type (wpAny_bind (Looks.here (s := { s with toks := s.toks + 1 }) hm ?_))))
  rw [hmr, refuseLoop_ref, OwnTail.refuse T, PySem.F.store_ValueError.passes]
  refine wpAny_pure (wpAny_bind (Looks.here (s := { s with toks := s.toks + 1 }) IA.type (wpAny_bind (Looks.here (s := { s with toks := s.toks + 1 }) (looks_findIn Xk hn) (wpAny_bind (wpAny_pure ?_))))))
  refine wpAny_bind (wpAny_pure (wpAny_bind (wpAny_bind (wpAny_loadPart (s := { s with toks := s.toks + 1 }) g1 ?_))))
  rw [g2]
  refine wpAny_bind (Looks.here (s := { s with toks := s.toks + 1 }) (looks_clsIn Xk hcl) ?_)
  rw [hhd, if_neg (by decide)]
  dsimp only
  rw [g3]
  dsimp only
  rw [if_neg (by simp [typeHasDict]), g4]
  dsimp only
  obtain ⟨hh, gg, dw, tk, os⟩ := s
  dsimp only at g1 ⊢
  have hx₁ : (hh.push { cls := .type "dict", data := .dict #[] }).get? a = some oe := Heap.get?_push_of_some _ g1
  have hxs : a ≠ hh.objs.size := Nat.ne_of_lt (Heap.lt_size g1)
  refine wpAny_bind (wpAny_alloc' (wpAny_bind (wpAny_update' hx₁ ?_)))
  refine wpAny_pure ?_
  have hgd : ((hh.push { cls := .type "dict", data := .dict #[] }).update a fun o => { cls := o.cls, dict := some hh.objs.size, data := o.data, slots := o.slots }).get? hh.objs.size
      = some { cls := .type "dict", data := .dict #[] } := (Heap.get?_update_ne _ _ _ _ hxs.symm).trans (Heap.get?_push_at rfl rfl)
  have hnd : ((hh.push { cls := .type "dict", data := .dict #[] }).update a fun o => { cls := o.cls, dict := some hh.objs.size, data := o.data, slots := o.slots }).Ns hh.objs.size (fun _ => none) :=
    ⟨_, #[], _, hgd, rfl, fun e he => absurd he (by simp), fun _ => rfl⟩
  show wpAny _ _ (Builtin.ObjectAttr.storeInDict hh.objs.size (.str f tk) f u) _ _ _
  unfold Builtin.ObjectAttr.storeInDict Builtin.ObjectAttr.newKeyGuard
  refine wpAny_bind (wpAny_pure (wpAny_bind (wpAny_nsSet1 (Heap.Ns1.of_empty hnd) fun h' hn' hs => ?_)))
  obtain ⟨oD, esD, epD, hoD, hdD, hcD⟩ := hn'.count (Within.cons f u Within.nil)
  refine wpAny_bind (wpAny_lookBehind hoD (by rw [hdD]; exact pastItsLine_dict (Nat.le_trans hcD (by rw [List.length_cons, List.length_nil, sizeLine_eq]; omega))) ?_)
  refine wpAny_pure (h hh.objs.size _ I.fresh hxs.symm ?_)
  have ha' : h'.get? a = some { cls := oe.cls, dict := some hh.objs.size, data := oe.data, slots := oe.slots } := by
    refine (hs.2 a hxs).trans (Heap.get?_update_self _ hx₁ ?_)
    show Obj.isFreed { cls := oe.cls, dict := some hh.objs.size, data := oe.data, slots := oe.slots } = false
    exact Obj.isFreed_of_fields (vs := vs) g4
  have J := I.write (x := a) (e := a) (o := excN a (.ref C) (some hh.objs.size)) (h' := h') (t' := tk + 2) (by rw [ea]; exact True.intro) (.inl rfl)
    (fun b z hb e => (hs.2 b (Nat.ne_of_lt (Heap.lt_size e))).trans ((Heap.get?_update_ne _ _ _ _ hb).trans (Heap.get?_push_of_some _ e))) ⟨_, ha'⟩ (excN_ok ha' g2 rfl g4 g5 g6)
  refine J.track (I.nw (Heap.get?_none_of_le (Nat.le_refl _)) (by rw [upd_ne hxs.symm]; exact I.fresh)) ⟨_, hn', fun g => ?_⟩
  show RelO (List.lookup g [(f, y)]) (if g = f then some u else none)
  by_cases z : g = f
  · subst z
    rw [if_pos rfl, List.lookup_cons_self]
    exact ry
  · rw [if_neg z, List.lookup_cons, beq_false_of_ne z]
    trivial
theorem ps_xput {K : Frag} (hK : X.K = K) (ho : PE X o to) (hv : PE X value tv) (hs : swapsWith value (some (.Attribute o f pos')) pos.line X.env = pure false := by rfl) : PS X (.Assign [.Attribute o f pos'] value pos) (tXPut K f to tv) := by
  subst hK
  intro pins s σ H D I h
  refine plainObj_wpAny_Assign_Attribute (thn (hv pins s σ H _ I h) fun u s1 ⟨y, H1, I1, ry, q⟩ => thn (ho pins s1 σ H1 _ I1 q) fun ov s2 ⟨x, H2, I2, rx, q2⟩ => ?_) hs
  match x, q2 with
  | .ref a, ⟨C, ea, j, sa, na, mO, q⟩ =>
    obtain rfl : ov = Value.ref a := rx
    exact xset I2 ea j sa na mO ry fun d s3 nd dne I3 => ⟨σ, _, I3, q d nd dne⟩
end
/-! ### raise C(..), C with an __init__ -/
theorem Inv.untrack {X : Cx} {pins : List (Addr × Obj)} {σ : St} {H : Hp} {s : Shared} {a : Addr} {φ : Heap → Prop} (I : Inv X pins σ H s) (e : H a = some (.ext φ)) : Inv X pins σ (fun b => if b = a then none else H b) s := by
  have ne : ∀ b u, H b = some u → (∀ φ, u ≠ .ext φ) → (fun b => if b = a then none else H b) b = some u := fun b u z n => by
    show (if b = a then none else H b) = some u
    rw [if_neg]; exact z
    rintro rfl
    rw [e] at z; cases z; exact n _ rfl
  have dn : ∀ b, H b = none → (fun b => if b = a then none else H b) b = none := fun b z => by
    show (if b = a then none else H b) = none
    split
    · rfl
    · exact z
  refine ⟨I.ok, I.os, I.bare, ⟨I.base.keep, I.base.slot, fun b u e n hx => dn _ (I.base.free b u e n hx), I.base.there, fun b xs e => ne _ _ (I.base.tups b xs e) (by intro φ z; cases z), fun b u v e => ne _ _ (I.base.frzs b u v e) (by intro φ z; cases z), fun b ps e => ?_⟩, I.loc, I.cell, dn _ I.free, fun x c e => dn _ (I.freeC x c e), fun p hp => ?_, fun b u z => ?_, I.len⟩
  · obtain ⟨m, q⟩ := I.base.tbls b ps e
    exact ⟨m, ne _ _ q (by intro φ z; cases z)⟩
  · obtain ⟨e, n, r⟩ := I.pin p hp
    exact ⟨e, dn _ n, r⟩
  · have hb : b ≠ a := fun y => by
      subst y
      have z' : (if b = b then none else H b) = some u := z
      rw [if_pos rfl] at z'; cases z'
    have z' : (if b = a then none else H b) = some u := z
    rw [if_neg hb] at z'
    refine (I.hok b u z').stay (fun _ _ _ q => q) (fun c q => ne _ _ q (by intro φ y; cases y)) fun c xs q => ne _ _ q (by intro φ y; cases y)
end L2

set_option Elab.async false
set_option linter.all false
set_option maxRecDepth 100000
set_option maxHeartbeats 1000000
namespace L2
open PySem PySem.Spec PyProof.Rows PySem.W
def spXI (C : Addr) (fld : Str) : Sp := fun vs H Q _ => ∃ a v, vs = [.ref a, v] ∧ H a = some (excN a (.ref C) none) ∧ ∀ d, H d = none → d ≠ a → Q .non (upd (upd H a (excN a (.ref C) (some d))) d (.xd [(fld, v)]))
structure XI (K : Frag) (C f : Addr) : Prop where
  j : excJ K C VEs "ValueError.__new__" = true
  init : findIn K (.ref C) "__init__" = some (some (.ref f))
  fn : isFn K (.ref f) = true
  kp : keepIn K (.ref C) = true
structure XMk (P : Program) (w : World) (K : Frag) (mg : Str → Option Value) (base : Heap) (n : Nat) (x : Str) (C : Addr) (fld : Str) : Prop where
  ex : ∃ f fd ps, XI K C f ∧ FnOk P w K mg base CX0 n f fd ps (spXI C fld) ∧ Binds K fd ps [] ∧ mg x = some (.ref C)
def tRaiseI (C : Addr) (fld : Str) (E : XK) (t : TA) : TS := fun _ σ H => t σ H fun vs H1 => ∃ v, vs = [v] ∧ ∀ d, H1 d = none → E (.ref C) (some d) (upd H1 d (.xd [(fld, v)]))
section
variable {M : Model} {A : Around} {E : Value → Shared → Prop} {env : Env} {nm q : Str} {C N : Addr} {bs bm : List Value} {hdct : Bool} {sn : List Str} {sub : List Value} {ab : Bool} {col : Option Bool} {dd : Option Addr} {k0 k1 k2 k3 k5 : Option Value} {newId : String}
theorem raiseStmt_J {s : Shared} {x : Sem Value} {Q : Flow → Shared → Prop} (hbase : (Value.ref C :: bm).contains (.type "BaseException") = true) (hh : A.handled = none)
    (h : wpAny M A x (fun v s₁ => ∃ e oe vs, v = .ref e ∧ s₁.heap.get? C = some (excClassObj nm q C N bs bm hdct sn sub ab col dd k0 k1 k2 k3 k5 newId) ∧ s₁.heap.get? e = some oe ∧ oe.cls = .ref C ∧ oe.data = .fields vs ∧ vs[1]? = some .none ∧ E (.ref e) s₁) E s) :
    wpAny M A (raiseStmt env (some x) none) Q E s := by
  unfold raiseStmt
  refine wpAny_bind (wpAny_mono h (fun v s₁ h₁ => ?_) fun _ _ x => x)
  obtain ⟨e, ⟨oc, od, odt, osl⟩, vs, rfl, hC, he, hcl, hdt, h1, hE⟩ := h₁
  dsimp only at hcl hdt
  subst hcl hdt
  obtain ⟨hp, g, d, tk, os⟩ := s₁
  repeat (first | with_reducible refine wpAny_loadPart_at he ?_ | with_reducible refine wpAny_loadPart_at hC ?_ | (with_reducible refine wpAny_isSubtype_exc hC ?_; rw [hbase]) | wp_step)
  rw [h1]
  refine wpAny_pure ?_
  rw [if_neg (by decide)]
  exact wpAny_pure (wpAny_raiseNew_none hh hE)
end
section
variable {X : Cx} {C : Addr} {x fld : Str} {np cpos pos : Pos} {e : Expr} {es : List Expr} {t : TA} {E : XK} {n k : Nat}
theorem ps_raiseI (fl : Fl X E) (hc : X.calm = true) (c : XMk X.prog X.w X.K X.mg X.base n x C fld) (hr : Room k X.A) (hn : n + 1 ≤ k) (hg : Gl X x) (ha : PA X (e :: es) t)
    (hp : plainAll (e :: es) = true := by rfl) (hdb : (x == ("__debug__" : Str)) = false := by decide) : PS X (.Raise (some (.Call (.Name x np) (e :: es) [] cpos)) none pos) (tRaiseI C fld E t) := by
  intro pins s σ H D I h
  have h' : (notStar e && plainAll es) = true := hp
  rw [Bool.and_eq_true] at h'
  obtain ⟨f, fd, ps, M, F, b, hm⟩ := c.ex
  obtain ⟨bm, N, nm, q, bs, sn, sub, ab, col, dd, k0, k1, k2, k3, k5, mN, cd, hC, hN, T, _⟩ := excJ_obj I.ok.mod.kin M.j
  have hbase : (Value.ref C :: bm).contains (.type "BaseException") = true := by rw [List.contains_cons, T.hasType (b := true) (by decide +kernel), Bool.or_true]
  rw [arm_exec_Raise]
  have go : wpAny (model X.prog X.w) X.A (eval (.Call (.Name x np) (e :: es) [] cpos) X.env) (fun v s₁ => ∃ e oe vs, v = .ref e ∧ s₁.heap.get? C = some (excClassObj nm q C N bs bm true sn sub ab col dd k0 k1 k2 k3 k5 "ValueError.__new__") ∧ s₁.heap.get? e = some oe ∧ oe.cls = .ref C ∧ oe.data = .fields vs ∧ vs[1]? = some .none ∧ X.xe (.ref e) s₁) X.xe s := by
    refine wpAny_Call_Name_kw (ld_glob I hg hm ?_ hdb)
    refine callWith_K (h₀ := X.base) I.ok.mod.kin M.kp (thn (ha cpos pins s σ H _ I h) fun us s1 ⟨vs, H1, I1, r, q1⟩ => ⟨I1.kIn, ?_⟩) (starEach_c h'.1) (plain_any h'.2)
    rw [List.nil_append]
    obtain ⟨v, rfl, q1⟩ := q1
    refine call_excJ I1.kIn M.j M.init M.fn (fun h2 a m => ?_) (by rw [← r.length]; show 1 ≤ _; rw [sizeLine_eq]; omega)
    have n1 : H1 a = none := I1.hok.none_of m.new
    have I2 := I1.kept (t' := s1.toks) m.keeps
    have nw := I1.nw m.new n1
    obtain ⟨tt, ht, _⟩ := m.there
    have I3 := I2.track (o := excN a (.ref C) none) nw (excN_ok ht rfl rfl rfl rfl rfl)
    have sp : spXI C fld (.ref a :: ([v] ++ [])) (upd H1 a (excN a (.ref C) none)) (fun z H2 => z = .non ∧ ∃ d, H1 d = none ∧ d ≠ a ∧ H2 = upd (upd (upd H1 a (excN a (.ref C) none)) a (excN a (.ref C) (some d))) d (.xd [(fld, v)])) E :=
      ⟨a, v, rfl, upd_same, fun d nd ne => ⟨rfl, d, by rw [upd_ne ne] at nd; exact nd, ne, rfl⟩⟩
    have r2 : Vals (V.ref a :: ([v] ++ [])) (Value.ref a :: (us ++ [])) := .cons rfl (r.append .nil)
    have hl : (Value.ref a :: us ++ []).length = ps.length := by
      have e := r2.length
      rw [F.len _ _ _ _ sp] at e
      exact e.symm
    have hb : BindsTo { heap := h2, gens := s1.gens, drawn := s1.drawn, toks := s1.toks, os := s1.os } fd { pos := Value.ref a :: us } (ps.zip (Value.ref a :: (us ++ []))) := b _ (Value.ref a :: us) I3.kIn hl
    refine wpAny_call (codeAny_mono (F.run _ X.stack _ _ ⟨Value.ref a :: us, []⟩ (Value.ref a :: (us ++ [])) _ _ E ((hr.mono hn).make C us []) (I3.env0.make C us []) hb r2 sp) fun r s' hq' => ?_)
    cases r with
    | error e => exact False.elim hq'
    | ok flw =>
      cases flw with
      | ret u =>
        obtain ⟨v', H', I4, rv, ev, d, nd, dne, rfl⟩ := I3.after hq'
        subst ev
        refine ⟨rv, a, ?_⟩
        have e4 : upd (upd (upd H1 a (excN a (.ref C) none)) a (excN a (.ref C) (some d))) d (.xd [(fld, v)]) a = some (excN a (.ref C) (some d)) := by rw [upd_ne (Ne.symm dne), upd_same]
        obtain ⟨⟨oe, vs, g1, g2, g3, g4, g5, g6⟩, _⟩ := I4.hok a _ e4
        have I5 := I4.untrack e4
        have eH : (fun b => if b = a then none else upd (upd (upd H1 a (excN a (.ref C) none)) a (excN a (.ref C) (some d))) d (.xd [(fld, v)]) b) = upd H1 d (.xd [(fld, v)]) := by
          funext y
          show (if y = a then none else _) = _
          by_cases hya : y = a
          · rw [if_pos hya, hya, upd_ne (Ne.symm dne), n1]
          · rw [if_neg hya]
            by_cases hyd : y = d
            · rw [hyd, upd_same, upd_same]
            · rw [upd_ne hyd, upd_ne hyd, upd_ne hya, upd_ne hya]
        rw [eH] at I5
        refine ⟨oe, vs, rfl, I4.bk _ _ hC, g1, g2, g4, g5, ?_⟩
        refine fl pins σ _ _ a (.ref C) (some d) I5 ⟨⟨by rw [upd_ne (Ne.symm dne)]; exact n1, nw.2⟩, .inl ⟨oe, vs, g1, g2, g3, g4, g5, g6⟩⟩ (q1 d nd)
      | next => exact False.elim hq'
      | brk => exact False.elim hq'
      | cont => exact False.elim hq'
  first
    | refine wpAny_bind (wpAny_standAt (raiseStmt_J hbase (I.ok.hd hc) (wpAny_bind (wpAny_mono go (fun v s₃ h₃ => wpAny_bind (wpAny_standAt (wpAny_pure h₃))) fun _ _ x => x))))
    | (simp only [evalOpt, Option.map]; refine wpAny_bind (wpAny_standAt (raiseStmt_J hbase (I.ok.hd hc) (wpAny_bind (wpAny_mono go (fun v s₃ h₃ => wpAny_bind (wpAny_standAt (wpAny_pure h₃))) fun _ _ x => x)))))
    | (refine wpAny_bind (wpAny_standAt (raiseStmt_J hbase (I.ok.hd hc) ?_)); refine wpAny_bind (wpAny_mono go (fun v s₃ h₃ => wpAny_bind (wpAny_standAt (wpAny_pure h₃))) fun _ _ x => x))
end
end L2

set_option Elab.async false
set_option linter.all false
set_option maxRecDepth 100000
set_option maxHeartbeats 1000000
namespace L2
open PySem PySem.Spec PyProof.Rows PySem.W
/-! ### a field of an exception, read -/
section
variable {prog : Program} {w : World} {A : Around} {E : Value → Shared → Prop} {s : Shared} {K : Frag} {x D : Addr} {ox : Obj} {odo : Option Obj} {name : Str} {v : Value}
theorem exc_ga2 {R : Result → Shared → Prop} {tk : Tok} (X : K.In s.heap) (I : InstAt s.heap x ox D odo) (hf : findObj K D odo name = some (.value v)) (hmB : mroIn K D (.type "BaseException") = some true)
    (h : R (.ok (.ret v)) s) : codeAny (model prog w) A (.call (.builtin "BaseException.__getattribute__") ⟨[.ref x, .str name tk], []⟩) R s := by
  obtain ⟨hh, g, d, t, os⟩ := s
  have L0 := I.type (M := model prog w)
  have L1 := looks_find (M := model prog w) X I hf
  have L4 := looks_mroIn (M := model prog w) X hmB
  refine codeAny_call_builtin PySem.F.attr_ValueError.ga.plain PySem.F.entry_bexc_ga ?_
  have hk : builtinKind "BaseException.__getattribute__" = some .slot := by decide +kernel
  have hsplit : splitId "BaseException.__getattribute__" = some ("BaseException", "__getattribute__") := by decide +kernel
  have ha := PySem.F.args_bexc_ga (.ref x) (.str name tk)
  simp only [checkBuiltinCall, hk, hsplit]
  refine wpAny_bind ?_
  unfold isInstance
  refine wpAny_bind (L0.at (L4.at ?_))
  repeat (any_goals (first | assumption | with_reducible refine L0.at ?_ | with_reducible refine L1.at ?_ | wp_step))
theorem exc_get {Q : Value → Shared → Prop} {expr : Bool} (X : K.In s.heap) (I : InstAt s.heap x ox D odo) (k : ExcK K D) (hf : findObj K D odo name = some (.value v)) (hh : handedIn v = true)
    (h : ∀ t, Q v { s with toks := t }) : wpAny (model prog w) A (getAttr (.ref x) name expr) Q E s := by
  obtain ⟨hp, g, d, t, os⟩ := s
  have L0 := I.type (M := model prog w)
  have L1 := looks_findIn (M := model prog w) X k.ga
  have L2' := looks_findIn (M := model prog w) X k.gr
  have f3 := PySem.F.attr_ValueError.ga.bind (.ref x)
  unfold getAttr getAttrBy
  refine wpAny_bind (wpAny_mkText (wpAny_holding (wpAny_bind (L0.at (wpAny_bind (L1.at ?_))))))
  have hx2 : (Value.builtin "BaseException.__getattribute__" == Value.builtin "object.__getattribute__") = false := by decide +kernel
  repeat (any_goals (first | assumption | wp_step))
  refine L2'.at ?_
  repeat (any_goals (first | assumption | wp_step))
  rw [if_neg (by cases expr <;> decide)]
  repeat (any_goals (first | assumption | wp_step))
  refine exc_ga2 X I hf k.mB ?_
  exact handed_on hh (h _)
end
def xfldAt (K : Frag) (f : Str) (a : Addr) (H : Hp) (Q : VK) : Prop := ∃ D d fs v, H a = some (excO a (.ref D) (some d)) ∧ H d = some (.xd fs) ∧ ExcK K D ∧ hasDictIn K D = true ∧ findIn K (.ref D) f = some none ∧ fs.lookup f = some v ∧ Q v H
def wXFld (K : Frag) (f : Str) (to : TE) : TE := fun σ H Q => to σ H fun x H1 => match x with | .ref a => xfldAt K f a H1 Q | _ => False
theorem pe_xfld {X : Cx} {o : Expr} {to : TE} {pos : Pos} {K : Frag} {f : Str} (hK : X.K = K) (ho : PE X o to) (hb : notCall0 o = true := by rfl) : PE X (.Attribute o f pos) (wXFld K f to) := by
  subst hK
  intro pins s σ H Q I h
  refine attr_of (base_c hb) (thn (ho pins s σ H _ I h) fun u s1 ⟨x, H1, I1, rx, q⟩ => ?_)
  match x, q with
  | .ref a, ⟨D, d, fs, v, ea, ed, k, hd, na, l, q⟩ =>
    obtain rfl : u = Value.ref a := rx
    obtain ⟨⟨oe, vs, k1, k2, k3, k4, k5⟩, _, _⟩ := I1.hok a _ ea
    obtain ⟨mA, ns, r⟩ := I1.hok d _ ed
    obtain ⟨od, e', hl⟩ := lookIn_ns ns
    obtain ⟨u', hu, ru⟩ := RelO.some_of (v := v) (o := mA f) (by rw [← l]; exact r f)
    have IA : InstAt s1.heap a oe D (some od) := ⟨k1, k2, by unfold notCls; rw [k4], by rw [k3]; exact e'⟩
    have hlk : lookIn f od = some (some u') := by rw [hl, hu]
    exact exc_get I1.kIn IA k (findObj_own hd na rfl hlk) (handed_of ru) fun t => ⟨v, H1, I1.tok t, ru, q⟩
/-! ### except C as n, over exceptions with fields -/
def CatchesJ (K : Frag) (cls : Value) (C : Addr) : Prop := Catches K cls C true ∨ ∃ D, cls = .ref D ∧ excJ K D VEs "ValueError.__new__" = true ∧ mroIn K D (.ref C) = some true
theorem catch_okJ {K : Frag} {M : Model} {A : Around} {E : Value → Shared → Prop} {s : Shared} {C a : Addr} {cls : Value} {oe : Obj} {Q : Bool → Shared → Prop} (X : K.In s.heap) (hC : Exc0 K C) (c : CatchesJ K cls C)
    (he : s.heap.get? a = some oe) (hcls : oe.cls = cls) (hq : Q true s) : wpAny M A (excMatches (.ref a) (.ref C)) Q E s := by
  rcases c with c | ⟨D, rfl, hD, hm⟩
  · exact catch_ok X hC c he hcls hq
  obtain ⟨bmB, newId, q1, hbase⟩ := hC.ex
  obtain ⟨bm, N, nm, q, bs, hdct, sn, sub, ab, col, dd, k0, k1, k2, k3, k5, hC1, T, _⟩ := exc_obj2 X q1
  obtain ⟨bm', N', nm', q', bs', sn', sub', ab', col', dd', l0, l1, l2, l3, l5, mN, cd, hD1, _, _, hmro, _⟩ := excJ_obj X hD
  exact exc_matches hC1 hD1 he hcls (by rw [List.contains_cons, T.hasType hbase, Bool.or_true]) (hmro _ _ hm) hq
def tTryAsJ (K : Frag) (C : Addr) (j : Nat) (t : XK → TS) (u : Addr → TS) : TS := fun D σ H => ∃ M : XK, t M D σ H ∧ ∀ cls dd H1, M cls dd H1 → CatchesJ K cls C ∧ ∀ a, H1 a = none → u a (offJ D j) (σ.set j (some (.ref a))) (upd H1 a (excO a cls dd))
theorem ps_tryAsJ {X : Cx} {c n : Str} {j : Nat} {C : Addr} {st b₀ : Stmt} {suite : List Stmt} {t : XK → TS} {u : Addr → TS} {np hpos tpos : Pos} {L : Addr} (hst : X.stack = X.env :: X.outer) (hf : X.env.frame = some L) (hC : Exc0 X.K C) (hg : Gl X c) (hm : X.mg c = some (.ref C))
    (hN : X.N.Nodup) (hj : X.N[j]? = some n) (hk : X.env.scope.names.lookup n = some .local)
    (hb : PSX X st t) (hs : ∀ a, PSs (X.mk' a) (b₀ :: suite) (u a)) (hdb : (c == ("__debug__" : Str)) = false := by decide) :
    PS X (.Try [st] [.ExceptHandler (some (.Name c np)) (some n) (b₀ :: suite) hpos] [] [] tpos) (tTryAsJ X.K C j t u) := by
  intro pins s σ H D I h
  obtain ⟨M, ht, hu⟩ := h
  refine wpAny_Try_except (wpAny_execs_cons (wpAny_mono (hb M pins s σ H D I ht) (fun f s1 q => ?_) fun e s1 q => ?_))
  · cases f with
    | next => exact wpAny_pure (wpAny_pure q)
    | ret v => exact q
    | brk => exact q
    | cont => exact q
  · obtain ⟨a, cls, dd, H1, rfl, I1, x1, q1⟩ := q
    obtain ⟨hc, hu⟩ := hu cls dd H1 q1
    have na := x1.1
    refine note_any I1 x1 I1.ok.frames hst hf fun h2 T I2 fT x2 => ?_
    refine XSt.land I2 x2 fT fun h3 I3 x3 => ?_
    refine wpAny_handleBy_cons (codeAny_handlers_test (ld_glob (I3.mark (a := a)) hg hm ?_ hdb)) (by intro q; cases q)
    obtain ⟨oe, vs, oT, ts, g1, g2, _⟩ := id x3.ex
    refine catch_okJ I3.kIn hC hc g1 g2 ?_
    refine codeAny_handlers_suite_as (XSt.land I3 x3 fT fun h4 I4 x4 => ?_)
    have I5 := I4.track na (excO_ok x4)
    refine store_ok (i := j) I5 hN hj (.inl hk) (v := .ref a) rfl (fun s6 I6 => ?_) (.inr hk)
    refine wpAny_noRaise (thn (hs a pins _ _ _ (offJ D j) (I6.mark (a := a)) (hu a na.1)) fun f s5 q => ?_)
    cases f with
    | next => obtain ⟨σ', H', J, q⟩ := q; exact goes_ok (J.unmark I.ok) hN hj hk fun s7 J7 => ⟨_, H', J7, q⟩
    | ret v => obtain ⟨v, σ', H', J, r, q⟩ := q; exact goes_ok (J.unmark I.ok) hN hj hk fun s7 J7 => ⟨v, _, H', J7, r, q⟩
    | brk => obtain ⟨σ', H', J, q⟩ := q; exact goes_ok (J.unmark I.ok) hN hj hk fun s7 J7 => ⟨_, H', J7, q⟩
    | cont => obtain ⟨σ', H', J, q⟩ := q; exact goes_ok (J.unmark I.ok) hN hj hk fun s7 J7 => ⟨_, H', J7, q⟩
end L2

set_option Elab.async false
set_option linter.all false
set_option maxRecDepth 100000
set_option maxHeartbeats 1000000
namespace L2
open PySem PySem.Spec PySem.Calls PyProof.Rows PySem.W Att
theorem bits_of_weight {i : Int} {n : Nat} (h : WData.weight (.int i) ≤ n) : Builtin.Int.intBits i ≤ n := by
  unfold WData.weight at h
  unfold Builtin.Int.intBits
  exact h
theorem bits_of_all : ∀ {ns : List Int} {n : Nat}, WData.weightAll (ns.map WData.int) ≤ n → ∀ i ∈ ns, Builtin.Int.intBits i ≤ n
  | [], _, _, _, hi => nomatch hi
  | a :: r, n, h, i, hi => by
    have h' : WData.weight (.int a) + 1 + WData.weightAll (r.map WData.int) ≤ n := by simpa [WData.weightAll] using h
    rcases List.mem_cons.mp hi with rfl | hi
    · exact bits_of_weight (by omega)
    · exact bits_of_all (by omega) i hi
theorem bits_of_lay {ns : List Int} (h : WData.layableAll [WData.list (List.map WData.int ns)] = true) : ∀ i ∈ ns, Builtin.Int.intBits i ≤ 2 ^ 20 := by
  have h1 : WData.layable (WData.list (List.map WData.int ns)) = true := by simpa [WData.layableAll] using h
  unfold WData.layable at h1
  rw [Bool.and_eq_true, Bool.and_eq_true] at h1
  have h2 := of_decide_eq_true h1.2
  refine bits_of_all ?_
  simpa [WData.weight] using h2
theorem attach_callB {l : OpenLaw} {n : Nat} {q : Program} {loose : List Str} {XP : (Str → Option Value) → Heap → Prop} {YP : World → Heap → Prop} {d : DefRec}
    (hn : l.most = some n) (hdf : d.params.defaults = [])
    (call : ∀ (w : World) (s₀ s₁ : Shared) (mg mb : Str → Option Value) (fa : Addr) (o : Obj) (pm cd doc : Value) (a : Addr) (vs : List Value) (ns : List Int),
      Ground q loose [] XP w s₀ mg mb s₁.heap → YP w s₁.heap →
      s₁.heap.get? fa = some o → o.data = .func (docDef d.name d.params d.body d.scope pm cd doc) → s₁.heap.CodeRec cd d.name → mg d.name = some (.ref fa) →
      s₁.heap.get? a = some { cls := .type "list", data := .seq vs.toArray } → IntsAre vs ns → ns.length ≤ n → (∀ i ∈ ns, Builtin.Int.intBits i ≤ 2 ^ 20) → s₁.gens = #[] →
      codeAny (model l.prog w) callerA (.call (.ref fa) ⟨[.ref a], []⟩) (fun r s' => r = .ok (.ret (.bool true)) ∧ OldK s₁.heap s'.heap ∧ s'.os = s₁.os ∧ AllBare s'.gens) s₁) :
    WalkO q loose XP YP l.row.toRowW d [] (fun f vs => PySem.call f vs) := by
  intro w s₀ s₁ mg mb G Y fa o pm cd doc dV kV ho hd hcd hD hmg hg args vals as hpre hlay hrd hwl hlo
  obtain rfl : dV = .none := Dflts.none hD hdf
  obtain rfl : kV = .none := Dflts.noKw hD
  obtain ⟨a, vs, ns, rfl, rfl, hobj, hints, hlen⟩ := script_of hn hpre hwl
  refine enter_call (codeAny_mono (call w s₀ s₁ mg mb fa o pm cd doc a vs ns G Y ho (fd_plain hd) hcd hmg hobj hints hlen (bits_of_lay hlay) hg) fun r s' hq => ?_)
  obtain ⟨rfl, h2, h3, h4⟩ := hq
  exact ⟨.inl ⟨.bool true, .bool true, [], rfl, fun _ => rfl, .bool true, post_true l _, fun _ => ⟨List.Pairwise.nil, fun _ hm => (nomatch hm)⟩⟩, h2, h3, h4⟩
theorem walk_ofB {l : PySem.W.OpenLaw} {n k : Nat} {q : Program} {loose : List Str} {XP : (Str → Option Value) → Heap → Prop} {YP : World → Heap → Prop} {d : DefRec} {K : Params → PySem.W.Frag} {CX : World → CXT} {sp : World → Sp} {x : Str}
    (hn : l.most = some n) (hn2 : n ≤ sizeLine) (hdf : d.params.defaults = []) (hr : Room k callerA)
    (hY : ∀ (w : World) (h : Heap), YP w h → (K w.params).In h)
    (F : ∀ (w : World) (mg : Str → Option Value) (fa : Addr) (h : Heap), (K w.params).In h → h.Ns mainGlobals mg → mg d.name = some (.ref fa) →
      ∃ fd : FuncData, (∀ (s : Shared) (u : Value), BindsTo s fd ⟨[u], []⟩ [(x, u)]) ∧
        ∀ base : Heap, (K w.params).In base → base.Ns mainGlobals mg → FnOk l.prog w (K w.params) mg base (CX w) k fa fd [x] (sp w))
    (hsp : ∀ (w : World) (H : Hp) (a : Addr) (ns : List Int), ns.length ≤ n → (∀ i ∈ ns, Builtin.Int.intBits i ≤ 2 ^ 20) → SqL (K w.params) H a (ns.map V.int) → sp w [.ref a] H (fun v _ => v = .bl true) fun _ _ _ => False)
    (hCX : ∀ (w : World) (H : Hp) (s : Shared) (e : Value) (s' : Shared), CX w [] H s (fun _ _ _ => False) e s' → False) :
    PySem.W.WalkO q loose XP YP l.row.toRowW d [] (fun f vs => PySem.call f vs) := by
  refine attach_callB hn hdf fun w s₀ s₁ mg mb fa o pm cd doc a vs ns G Y ho hd hcd hmg hobj hints hlen hbits hg => ?_
  have KX := hY w _ Y
  obtain ⟨fd, hb, hF⟩ := F w mg fa _ KX G.T.g hmg
  exact law_call KX G.T.g G.T.b G.T.builtins G.T.nolimit hg hobj hints (Nat.le_trans hlen hn2) hr hF hb (fun H hO hS => hsp w H a ns hlen hbits hS) fun H e s' => hCX w H s₁ e s'
/-- * of great numbers -/
def wMulB : R2 := fun x y H Q => match x, y with
  | .int i, .int j => IntMulOk i j ∧ Q (.int (i * j)) H
  | _, _ => False
theorem w_mulB {X : Cx} : OpR X (binaryOp .Mult) wMulB := (opI (C := IntMulOk) (g := fun i j => i * j) fun _ _ _ _ _ _ _ hc q => mul_int q hc).imp fun x y H Q h => by
  match x, y, h with
  | .int i, .int j, h => exact ⟨i, j, rfl, rfl, h⟩
theorem great_ok {i k : Int} (h : Builtin.Int.intBits i ≤ 2 ^ 20) (k0 : 0 ≤ k) (k1 : k < 1000) : IntMulOk (i * 48271 + 7919 * k * k + 11) (2305843009213693951 ^ 4) := by
  have hk : 7919 * k * k + 11 ≤ 7919 * 1000 * 1000 + 11 := by
    have : 7919 * k * k ≤ 7919 * 1000 * 1000 := Int.mul_le_mul (by omega) (by omega) k0 (by decide)
    omega
  have hk0 : 0 ≤ 7919 * k * k + 11 := by
    have : 0 ≤ 7919 * k * k := Int.mul_nonneg (by omega) k0
    omega
  rw [Int.add_assoc]
  refine IntMulOk.of_le (m := 2 ^ 21) (n := 300) ?_ (by decide +kernel) (by decide)
  refine Nat.le_trans (PyProof.Rows.bits_add (PyProof.Rows.bits_mul h (PySem.intBits_le_64 (by decide) (by decide))) (PySem.intBits_le_64 (by omega) (by omega))) (by decide)
end L2

set_option Elab.async false
set_option linter.all false
set_option maxRecDepth 100000
set_option maxHeartbeats 1000000
namespace L2
open PySem PySem.Spec PyProof.Rows
open Sem (wp) in
def compPostX (M : Model) (A : Around) (E : Value → Shared → Prop) (use : Option (Value → Sem Unit)) (Q : Value → Shared → Prop) (acc : Value) (cenv : Env) (r : Result) (s' : Shared) : Prop :=
  match r, use with
  | .ok _, none => ∃ m, s'.heap.Ns cenv.locals m ∧ ∀ h', Heap.SameBut cenv.locals s'.heap h' → Q acc { s' with heap := h' }
  | .ok _, some u => wpAny M A (u acc) (fun _ s'' => ∃ m, s''.heap.Ns cenv.locals m ∧ ∀ h', Heap.SameBut cenv.locals s''.heap h' → Q .none { s'' with heap := h' }) E s'
  | .error x, _ => ∃ m, s'.heap.Ns cenv.locals m ∧ ∀ h', Heap.SameBut cenv.locals s'.heap h' → ∀ cenv' : Env, cenv'.locals = cenv.locals → cenv'.frame = cenv.frame → wpAny M A (passOn "comprehension.variables-let-go" x cenv' : Sem Value) (fun _ _ => False) E { s' with heap := h' }
section
variable {M : Model} {A : Around} {E : Value → Shared → Prop} {s : Shared} {env : Env}
end
def cmpWX (EX : XK) (J : It) (pk : List (Option Nat)) (g : TG) (tt : TT) (te : XK → TE) (σ : St) (H : Hp) (Q : VK) : Prop := ∃ W : Nat → Nat → List V → Hp → Prop, (∃ m, W 0 m [] H) ∧ ∀ i m ys H, W i m ys H →
  (J.stop i H ∧ ys.length ≤ sizeLine ∧ ∀ p, H p = none → Q (.ref p) (upd H p (.lst ys))) ∨
  (J.go i H ∧ ys.length < sizeLine ∧ ∃ N : List V → Hp → Prop, (∀ zs H', N zs H' → ∃ m', m' < m ∧ W (i + 1) m' zs H') ∧ ∀ x H', J.yld i H x H' → g x (pick pk σ) H' fun σ2 H2 => Sup (pick pk σ) σ2 ∧ tt σ2 H2 fun b H3 =>
    if b = true then te (fun cls dd H4 => ∀ p zs, H4 p = none → EX cls dd (upd H4 p (.lst zs))) σ2 H3 fun v H4 => N (ys ++ [v]) H4 else N ys H3)
def tSetCX (EX : XK) (i : Nat) (pk : List (Option Nat)) (wi : TI) (g : TG) (tt : TT) (te : XK → TE) : TS := fun D σ H => wi σ H fun J H1 => cmpWX EX J pk g tt te σ H1 fun x H2 => gName i x σ H2 D.nx
section
variable {X : Cx} {scope : Scope} {N' : List Str} {pk : List (Option Nat)} {tg elt iter : Expr} {ifs : List Expr} {pos : Pos} {wi : TI} {g : TG} {tt : TT} {te : XK → TE} {EX : XK} {L : Addr}
end
end L2

set_option Elab.async false
set_option linter.all false
set_option maxRecDepth 100000
set_option maxHeartbeats 1000000
namespace L2
open PySem PySem.Spec PyProof.Rows PySem.StrLaws Builtin.Str
/-! ### split of a joined text -/
def jn (sp : List Nat) : List (List Nat) → List Nat
  | [] => []
  | [p] => p
  | p :: q :: r => p ++ sp ++ jn sp (q :: r)
theorem join_codes (y : Str) : ∀ ps : List Str, (Str.join y ps).cps.toList = jn y.cps.toList (ps.map fun p => p.cps.toList)
  | [] => rfl
  | [p] => rfl
  | p :: q :: r => by
    show (p ++ y ++ Str.join y (q :: r)).cps.toList = p.cps.toList ++ y.cps.toList ++ jn _ ((q :: r).map fun p => p.cps.toList)
    rw [← join_codes y (q :: r)]
    simp [Str.cps_append]
theorem jn_count {c : Nat} {ts : List Nat} (hc : c ∉ ts) : ∀ ps : List (List Nat), ps ≠ [] → (jn (c :: ts) ps).count c + 1 = (ps.map (·.count c)).sum + ps.length
  | [], h => absurd rfl h
  | [p], _ => by simp [jn]
  | p :: q :: r, _ => by
    have ih := jn_count hc (q :: r) (by simp)
    have ht : ts.count c = 0 := List.count_eq_zero.mpr hc
    simp only [jn, List.count_append, List.count_cons_self, ht, List.map_cons, List.sum_cons, List.length_cons] at ih ⊢
    omega
theorem jn_inj {c : Nat} {ts : List Nat} : ∀ (ps qs : List (List Nat)), ps ≠ [] → qs ≠ [] → (∀ p ∈ ps, c ∉ p) → (∀ q ∈ qs, c ∉ q) → jn (c :: ts) ps = jn (c :: ts) qs → ps = qs := by
  have cut : ∀ (p q a b : List Nat), c ∉ p → c ∉ q → p ++ c :: a = q ++ c :: b → p = q ∧ a = b := by
    intro p
    induction p with
    | nil =>
      intro q a b _ hq e
      cases q with
      | nil => exact ⟨rfl, by simpa using e⟩
      | cons z q => simp only [List.nil_append, List.cons_append, List.cons.injEq] at e; exact absurd (by rw [e.1]; exact .head _) hq
    | cons z p ih =>
      intro q a b hp hq e
      cases q with
      | nil => simp only [List.nil_append, List.cons_append, List.cons.injEq] at e; exact absurd (by rw [← e.1]; exact .head _) hp
      | cons z' q =>
        simp only [List.cons_append, List.cons.injEq] at e
        obtain ⟨h1, h2⟩ := ih q a b (fun z => hp (.tail _ z)) (fun z => hq (.tail _ z)) e.2
        exact ⟨by rw [e.1, h1], h2⟩
  intro ps
  induction ps with
  | nil => intro qs h; exact absurd rfl h
  | cons p ps ih =>
    intro qs _ hq0 hp hq e
    cases qs with
    | nil => exact absurd rfl hq0
    | cons q qs =>
      have pc := hp p (.head _)
      have qc := hq q (.head _)
      cases ps with
      | nil =>
        cases qs with
        | nil => simp only [jn] at e; rw [e]
        | cons q2 qs =>
          simp only [jn] at e
          exact absurd (by rw [e]; simp) pc
      | cons p2 ps =>
        cases qs with
        | nil =>
          simp only [jn] at e
          exact absurd (by rw [← e]; simp) qc
        | cons q2 qs =>
          simp only [jn, List.append_assoc, List.cons_append] at e
          obtain ⟨h1, h2⟩ := cut p q _ _ pc qc e
          have h3 := List.append_cancel_left h2
          rw [h1, ih (q2 :: qs) (by simp) (by simp) (fun z hz => hp z (.tail _ hz)) (fun z hz => hq z (.tail _ hz)) h3]
theorem jn_at {c : Nat} {ts : List Nat} (hc : c ∉ ts) : ∀ (ps : List (List Nat)), (∀ p ∈ ps, c ∉ p) → ∀ i, (jn (c :: ts) ps)[i]? = some c → ∃ r, (jn (c :: ts) ps).drop i = (c :: ts) ++ r
  | [], _, i, h => by simp [jn] at h
  | [p], hp, i, h => by
    simp only [jn] at h
    exact absurd (List.mem_of_getElem? h) (hp p (.head _))
  | p :: q :: r, hp, i, h => by
    simp only [jn, List.append_assoc] at h ⊢
    by_cases h1 : i < p.length
    · rw [List.getElem?_append_left h1] at h
      exact absurd (List.mem_of_getElem? h) (hp p (.head _))
    · rw [List.getElem?_append_right (by omega)] at h
      rw [List.drop_append, List.drop_eq_nil_of_le (by omega), List.nil_append]
      generalize i - p.length = j at h ⊢
      by_cases h2 : j < (c :: ts).length
      · rw [List.getElem?_append_left h2] at h
        cases j with
        | zero => exact ⟨_, rfl⟩
        | succ j =>
          rw [List.getElem?_cons_succ] at h
          exact absurd (List.mem_of_getElem? h) hc
      · rw [List.getElem?_append_right (by omega)] at h
        obtain ⟨r', e⟩ := jn_at hc (q :: r) (fun z hz => hp z (.tail _ hz)) _ h
        refine ⟨r', ?_⟩
        rw [List.drop_append, List.drop_eq_nil_of_le (by omega), List.nil_append]
        exact e
theorem occ_filter (s sub : Str) (hi limit : Nat) (ap : ∀ i j, At s sub hi i → At s sub hi j → i < j → i + sub.length ≤ j) :
    ∀ (l : List Nat) (st : Array Nat × Nat), l.Pairwise (· < ·) → (∀ i ∈ l, At s sub hi i → st.2 ≤ i) → st.1.size + l.length ≤ limit →
      (forIn l st (occBody s sub hi limit)).run.fst.toList.length = st.1.size + (l.filter fun i => decide (i + sub.length ≤ hi) && subAt s sub i).length
  | [], st, _, _, _ => by simp
  | a :: l, st, hl, hf, hz => by
    rw [List.forIn_cons]
    unfold occBody
    have hl' := List.pairwise_cons.mp hl
    simp only [List.length_cons] at hz
    split
    · rename_i hc
      have hA : At s sub hi a := ⟨hc.1.2, hc.2⟩
      have h := occ_filter s sub hi limit ap l (st.fst.push a, a + sub.length) hl'.2 (fun i hi' hAi => ap a i hA hAi (hl'.1 i hi')) (by simp; omega)
      refine Eq.trans h ?_
      rw [List.filter_cons_of_pos (by rw [decide_eq_true hc.1.2, hc.2]; rfl)]
      simp
      omega
    · rename_i hc
      have hA : ¬ At s sub hi a := fun z => hc ⟨⟨⟨by omega, hf a (.head _) z⟩, z.1⟩, z.2⟩
      have h := occ_filter s sub hi limit ap l st hl'.2 (fun i hi' hAi => hf i (.tail _ hi') hAi) (by omega)
      refine Eq.trans h ?_
      rw [List.filter_cons_of_neg (by
        intro z
        rw [Bool.and_eq_true, decide_eq_true_eq] at z
        exact hA z)]
theorem count_filter (c : Nat) : ∀ (L : List Nat) (n : Nat), L.length ≤ n → ((List.range n).filter fun i => decide (L[i]? = some c)).length = L.count c := by
  intro L
  induction L with
  | nil =>
    intro n _
    rw [List.count_nil, List.length_eq_zero_iff, List.filter_eq_nil_iff]
    intro i _
    simp
  | cons a L ih =>
    intro n hn
    cases n with
    | zero => simp at hn
    | succ n =>
      have hn' : L.length ≤ n := by simpa using hn
      rw [List.range_succ_eq_map]
      have e : (List.map Nat.succ (List.range n)).filter (fun i => decide ((a :: L)[i]? = some c)) = ((List.range n).filter fun i => decide (L[i]? = some c)).map Nat.succ := by
        rw [List.filter_map]
        rfl
      rw [List.filter_cons, e]
      by_cases z : a = c
      · subst z
        simp [ih n hn']
      · rw [if_neg (by simp [z]), List.length_map, ih n hn', List.count_cons_of_ne z]
theorem sum_zero : ∀ {l : List Nat}, (∀ z ∈ l, z = 0) → l.sum = 0
  | [], _ => rfl
  | a :: l, h => by rw [List.sum_cons, h a (.head _), sum_zero fun z hz => h z (.tail _ hz)]
theorem le_sum : ∀ {l : List Nat} {z : Nat}, z ∈ l → z ≤ l.sum
  | a :: l, z, h => by
    rw [List.sum_cons]
    rcases List.mem_cons.mp h with rfl | h
    · omega
    · have := le_sum h; omega
theorem split_join {y : Str} {c : Nat} {ts : List Nat} (hy : y.cps.toList = c :: ts) (hc : c ∉ ts) (hk : Builtin.Str.strKind y = 1) {ps : List Str} (h0 : ps ≠ []) (hp : ∀ p ∈ ps, c ∉ p.cps.toList) : Txt.split (Str.join y ps) y = ps := by
  generalize hx : Str.join y ps = x
  have hX : x.cps.toList = jn (c :: ts) (ps.map fun p => p.cps.toList) := by rw [← hx, join_codes, hy]
  have hpc : ∀ p ∈ ps.map (fun p => p.cps.toList), c ∉ p := fun p hp' => by
    obtain ⟨q, hq, rfl⟩ := List.mem_map.mp hp'
    exact hp q hq
  have hyl : y.length = (c :: ts).length := by rw [← hy]; simp [Str.length]
  have hxl : x.length = x.cps.toList.length := by simp [Str.length]
  have atc : ∀ i, At x y x.length i ↔ x.cps.toList[i]? = some c := fun i => by
    unfold At
    rw [subAt_eq, hy, hyl]
    constructor
    · intro z
      have z2 := eq_of_beq z.2
      have : ((x.cps.toList.drop i).take (c :: ts).length)[0]? = some c := by rw [z2]; rfl
      rw [List.getElem?_take_of_lt (by simp), List.getElem?_drop] at this
      simpa using this
    · intro z
      rw [hX] at z
      obtain ⟨r, e⟩ := jn_at hc _ hpc i z
      rw [← hX] at e
      have hl : i + (c :: ts).length ≤ x.length := by
        have := congrArg List.length e
        rw [List.length_drop, List.length_append] at this
        have hi : i < x.cps.toList.length := by
          rw [hX]; exact (List.getElem?_eq_some_iff.mp z).1
        omega
      refine ⟨hl, ?_⟩
      rw [e, List.take_left]
      exact beq_self_eq_true _
  have ap : ∀ i j, At x y x.length i → At x y x.length j → i < j → i + y.length ≤ j := fun i j hi hj hij => by
    refine Nat.le_of_not_lt fun hlt => ?_
    have zi := (atc i).mp hi
    have zj := (atc j).mp hj
    rw [hX] at zi
    obtain ⟨r, e⟩ := jn_at hc _ hpc i zi
    rw [← hX] at e
    have e2 : x.cps.toList[j]? = ((c :: ts) ++ r)[j - i]? := by
      rw [← e, List.getElem?_drop]; congr 1; omega
    rw [e2, List.getElem?_append_left (by omega)] at zj
    obtain ⟨k, hk'⟩ : ∃ k, j - i = k + 1 := ⟨j - i - 1, by omega⟩
    rw [hk', List.getElem?_cons_succ] at zj
    exact hc (List.mem_of_getElem? zj)
  have occ : (occurrences x y 0 x.length (x.length + 1)).length = x.cps.toList.count c := by
    rw [occ_eq]
    refine (occ_filter x y x.length (x.length + 1) ap (List.range' 0 (x.length + 1 - 0)) (#[], 0) List.pairwise_lt_range' (fun i _ _ => Nat.zero_le _) (by simp)).trans ?_
    rw [show (#[] : Array Nat).size = 0 from rfl, Nat.zero_add, Nat.sub_zero, ← List.range_eq_range', ← count_filter c x.cps.toList (x.length + 1) (by omega)]
    congr 1
    refine List.filter_congr fun i _ => ?_
    refine Bool.eq_iff_iff.mpr ?_
    rw [Bool.and_eq_true, decide_eq_true_eq, decide_eq_true_eq]
    exact atc i
  have hcnt := jn_count hc (ps.map fun p => p.cps.toList) (by simpa using h0)
  have hs0 : ((ps.map fun p => p.cps.toList).map (·.count c)).sum = 0 := by
    rw [List.map_map]
    refine sum_zero fun z hz => ?_
    obtain ⟨p, hp', rfl⟩ := List.mem_map.mp hz
    exact List.count_eq_zero.mpr (hp p hp')
  rw [← hX, hs0, List.length_map] at hcnt
  have hql : (Txt.split x y).length = ps.length := by
    unfold Txt.split
    have k1 : ¬ Builtin.Str.strKind x < Builtin.Str.strKind y := by
      rw [hk]; unfold Builtin.Str.strKind
      split
      · omega
      · split <;> omega
    rw [decide_eq_false k1, Bool.or_false]
    split
    · rename_i hlt
      have hlt := of_decide_eq_true hlt
      show 1 = ps.length
      match ps, h0, hcnt, hx with
      | [_], _, _, _ => rfl
      | a :: b :: r, _, hcnt, hx =>
        have e : x.length = a.length + y.length + (Str.join y (b :: r)).length := by
          rw [← hx]
          show (a ++ y ++ Str.join y (b :: r)).length = _
          rw [Str.length_append, Str.length_append]
        omega
    · split
      · rename_i he
        have : (occurrences x y 0 x.length (x.length + 1)).length = 0 := by rw [List.isEmpty_iff.mp he]; rfl
        show 1 = ps.length
        omega
      · rw [length_partsBetween, occ]; omega
  have hj := join_split x y
  have hq0 : Txt.split x y ≠ [] := fun z => by
    rw [z] at hql
    exact h0 (List.length_eq_zero_iff.mp hql.symm)
  have hQ : x.cps.toList = jn (c :: ts) ((Txt.split x y).map fun p => p.cps.toList) := by rw [← hy, ← join_codes, hj]
  have hcq := jn_count hc ((Txt.split x y).map fun p => p.cps.toList) (by simpa using hq0)
  rw [← hQ, List.length_map, hql] at hcq
  have hsq : (((Txt.split x y).map fun p => p.cps.toList).map (·.count c)).sum = 0 := by omega
  have hqc : ∀ q ∈ (Txt.split x y).map (fun p => p.cps.toList), c ∉ q := fun q hq z => by
    have h1 : q.count c ≤ (((Txt.split x y).map fun p => p.cps.toList).map (·.count c)).sum := le_sum (List.mem_map_of_mem hq)
    have h2 := List.count_pos_iff.mpr z
    omega
  have := jn_inj _ _ (by simpa using h0) (by simpa using hq0) hpc hqc (hX.symm.trans hQ)
  refine (List.map_inj_right (f := fun p : Str => p.cps.toList) fun a b e => ?_).mp this.symm
  exact Str.ext' (Array.toList_inj.mp e)
end L2

set_option Elab.async false
set_option linter.all false
set_option maxRecDepth 100000
set_option maxHeartbeats 1000000
namespace L2
open PySem PySem.Spec PyProof.Rows
section
variable {X : Cx}
/-! ### str of a text or a number -/
theorem call_str_str : CallR X (.type "str") (fun xs H Q => ∃ x, xs = [.str x] ∧ Q (.str x) H) := by
  intro pins s σ H xs us Q I r h
  obtain ⟨x, rfl, q⟩ := h
  obtain ⟨u, rfl, t, rfl⟩ := vals1 r
  exact PySem.P.str_of_str ⟨.str _, H, I, ⟨_, rfl⟩, q⟩
def wStrA : List V → Hp → VK → Prop := fun xs H Q => match xs with
  | [.int i] => i.natAbs.log2 < 1920 ∧ Q (.str (toString i)) H
  | [.str x] => Q (.str x) H
  | _ => False
theorem w_strA : CallR X (.type "str") wStrA := (call_str_int.or call_str_str).imp fun xs H Q h => by
  match xs, h with
  | [.int i], h => exact .inl ⟨i, rfl, h.1, h.2⟩
  | [.str x], h => exact .inr ⟨x, rfl, h⟩
end
theorem seqInDT {K : PySem.W.Frag} {x : V} {p : Addr} {H : Hp} {Q : VK} {xs : List V} {ds : List D} {e : D} (h : SqT K H p xs) (h1 : Dens K H xs ds) (h2 : Den K H x e) (h3 : ∀ d ∈ ds, dep d ≤ 50) (g : Q (.bl (ds.any fun d => eqD d e)) H) : seqInD K x p H Q := ⟨xs, ds, e, .inr h, h1, h2, h3, g⟩
/-! ### a def whose last parameters have defaults -/
structure FunD (K : PySem.W.Frag) (x qual : Str) (st : Stmt) (T f : Addr) (fd : FuncData) : Prop where
  ex : ∃ (oc : Value) (od : Option Addr) (kV doc pm : Value) (an : Option Addr) (cdv ct : Value) (osl : Array (Option Value)),
    fd = PySem.W.fnOf x qual (defArgs st) (defBody st) (defScope st) (.ref T) kV doc pm an cdv ct ∧ K.lookup f = some ⟨oc, od, .func fd, osl⟩ ∧ PySem.W.codeIn K cdv qual = true
theorem funD_mk {K : PySem.W.Frag} {x qual : Str} {st : Stmt} {T f : Addr} {oc : Value} {od an : Option Addr} {osl : Array (Option Value)} {kV doc pm cdv ct : Value} (l : K.lookup f = some ⟨oc, od, .func (PySem.W.fnOf x qual (defArgs st) (defBody st) (defScope st) (.ref T) kV doc pm an cdv ct), osl⟩)
    (c : PySem.W.codeIn K cdv qual = true) : FunD K x qual st T f (PySem.W.fnOf x qual (defArgs st) (defBody st) (defScope st) (.ref T) kV doc pm an cdv ct) := ⟨⟨oc, od, kV, doc, pm, an, cdv, ct, osl, rfl, l, c⟩⟩
theorem FunD.okX {P : Program} {w : World} {K : PySem.W.Frag} {mg : Str → Option Value} {base : Heap} {x qual : Str} {st : Stmt} {T f : Addr} {fd : FuncData} {N ps : List Str} {k : Nat} {sp : Sp} (F : FunD K x qual st T f fd) (S : FnScope N ps (defScope st)) (len : ∀ vs H Q E, sp vs H Q E → vs.length = ps.length)
    (hbody : ∀ (cdv : Value) (A : Around) (outer : List Env) (s : Shared) (H : Hp) (vs : List V) (Q : VK) (E : XK), Room k (A.deeper (envOfC qual (defScope st) s.heap.objs.size f cdv)) → sp vs H Q E →
      ∃ t, PSs (cxOf (CXE P w) P w K mg base N qual (defScope st) f cdv A outer s H E) (defBody st) t ∧ t { nx := fun _ H' => Q .non H', rt := Q } (start N vs) H) : FnOk P w K mg base (CXE P w) (k + 1) f fd ps sp := by
  obtain ⟨oc, od, kV, doc, pm, an, cdv, ct, osl, rfl, lk, hcd⟩ := F.ex
  exact fn_of lk hcd S len fun A outer s H vs Q E hr hsp => hbody cdv A outer s H vs Q E hr hsp
structure CalD (P : Program) (w : World) (K : PySem.W.Frag) (mg : Str → Option Value) (base : Heap) (n : Nat) (x : Str) (ps : List Str) (dvs : List V) (sp : Sp) : Prop where
  ex : ∃ f fd ds, FnOk P w K mg base (CXE P w) n f fd ps sp ∧ Binds K fd ps ds ∧ Vals dvs ds ∧ PySem.W.keepIn K (.ref f) = true ∧ mg x = some (.ref f)
section
variable {X : Cx} {x : Str} {p pos : Pos} {e : Expr} {es : List Expr} {t : TA} {ps : List Str} {sp : Sp} {n m : Nat} {E : XK} {dvs : List V} {ds : List Value}
end
end L2

set_option Elab.async false
set_option linter.all false
set_option maxRecDepth 100000
set_option maxHeartbeats 1000000
namespace My
open PySem L2 PyProof.Rows
/-! ### masks, in plain numbers -/
def bitsN (M n : Nat) : List Nat := (List.range n).filter fun i => M.testBit i
/-- the number of figures by twos -/
def L (M : Nat) : Nat := Builtin.Int.intBits (M : Int)
def bits (M : Nat) : List Nat := bitsN M (L M)
/-! the mask of a list -/
def orAll (ks : List Nat) : Nat := ks.foldl (fun acc k => acc ||| 2 ^ k) 0
/-! sums of powers -/
def sumQ (q : Nat → Bool) : Nat → Nat
  | 0 => 0
  | n + 1 => sumQ q n + if q n then 2 ^ n else 0
end My

set_option Elab.async false
set_option linter.all false
set_option maxRecDepth 100000
set_option maxHeartbeats 1000000
namespace My
open PySem L2 PyProof.Rows
/-! ### numbers in texts -/
def figC : List Nat := [48, 49, 50, 51, 52, 53, 54, 55, 56, 57]
def wnum (x : Str) : Bool := if x.length = 0 ∨ 9 < x.length then false else if x.cps.toList[0]? = some 48 ∧ x ≠ Str.ofString "0" then false else x.cps.toList.all fun c => decide (c ∈ figC)
def natOf (x : Str) : Option Nat := if wnum x = true then some (PySem.NumText.digitsVal x.cps.toList) else none
def numOf (x : Str) : Option Int := (natOf x).map fun n : Nat => (n : Int)
def natsOf : List Str → Option (List Nat)
  | [] => some []
  | x :: xs => (natOf x).bind fun k => (natsOf xs).map (k :: ·)
/-! ### locked floors -/
def lk (fl : Nat) : List Nat → Nat → Nat → Option Nat
  | [], _, lo => some lo
  | k :: ks, last, lo => if last < k ∧ k < fl then lk fl ks k (lo + 2 ^ k) else none
def Inc (fl : Nat) : Nat → List Nat → Prop
  | _, [] => True
  | last, k :: ks => last < k ∧ k < fl ∧ Inc fl k ks
/-- which floors are locked -/
def okLk (fl : Nat) (ks : List Nat) : Prop := ((∀ k ∈ ks, k < 8) ∧ bits (orAll ks) = ks) ∧ orAll ks < 2 ^ fl ∧ orAll ks % 2 = 0
/-! ### words and parts -/
abbrev spS : Str := Str.ofString " "
abbrev scS : Str := Str.ofString "; "
def wds (s : Str) : List Str := Txt.split s spS
def pts (s : Str) : List Str := Txt.split s scS
theorem wds_join {ps : List Str} (h0 : ps ≠ []) (hp : ∀ p ∈ ps, 32 ∉ p.cps.toList) : wds (Str.join spS ps) = ps := split_join (c := 32) (ts := []) (by decide +kernel) (by decide) (by decide +kernel) h0 hp
def dig (i : Int) : Str := Str.ofString (toString i)
theorem dig_ok {i : Int} (h0 : 0 ≤ i) (h1 : i ≤ 9) : natOf (dig i) = some i.toNat ∧ (dig i).length = 1 ∧ ∀ c ∈ (dig i).cps.toList, 48 ≤ c ∧ c ≤ 57 := by
  rcases (show i = 0 ∨ i = 1 ∨ i = 2 ∨ i = 3 ∨ i = 4 ∨ i = 5 ∨ i = 6 ∨ i = 7 ∨ i = 8 ∨ i = 9 by omega) with rfl | rfl | rfl | rfl | rfl | rfl | rfl | rfl | rfl | rfl <;> decide +kernel
structure Lft where
  start : Int
  room : Int
  turns : Int
  kind : Str
def Lft.ok (fl : Int) (l : Lft) : Bool := decide (0 ≤ l.start ∧ l.start < fl ∧ 1 ≤ l.room ∧ l.room ≤ 6 ∧ 1 ≤ l.turns ∧ l.turns ≤ 4 ∧ (l.kind = Str.ofString "plain" ∨ l.kind = Str.ofString "hasty" ∨ l.kind = Str.ofString "slow"))
def okH (fl : Int) (ls : List Lft) (lo : Int) (so : Str) : Bool := decide (2 ≤ fl ∧ fl ≤ 8) && decide (1 ≤ ls.length ∧ ls.length ≤ 3) && ls.all (Lft.ok fl) && decide (0 ≤ lo ∧ lo < 2 ^ fl.toNat ∧ lo % 2 = 0) && decide (so = Str.ofString "free" ∨ so = Str.ofString "way")
def liftT (l : Lft) : Str := Str.join spS [dig l.start, dig l.room, dig l.turns, l.kind]
def headT (fl : Int) (ks : List Nat) (so : Str) : Str := Str.join spS (dig fl :: so :: ks.map fun k : Nat => dig (k : Int))
def textH (fl : Int) (ls : List Lft) (lo : Nat) (so : Str) : Str := Str.join scS (headT fl (bits lo) so :: ls.map liftT)
def rdL (p : Str) : Option Lft := match wds p with
  | [a, b, c, k] => (numOf a).bind fun x => (numOf b).bind fun y => (numOf c).bind fun z => some ⟨x, y, z, k⟩
  | _ => none
def rdLs : List Str → Option (List Lft)
  | [] => some []
  | p :: ps => (rdL p).bind fun l => (rdLs ps).map (l :: ·)
def rdH (s : Str) : Option (Int × List Lft × Int × Str) := match pts s with
  | [] => none
  | p0 :: ps => match wds p0 with
    | w0 :: w1 :: ws => (rdLs ps).bind fun ls => (natOf w0).bind fun fl => (natsOf ws).bind fun ks => if ((∀ k ∈ ks, k < 8) ∧ bits (orAll ks) = ks) ∧ okH (fl : Int) ls (orAll ks : Nat) w1 = true then some ((fl : Int), ls, ((orAll ks : Nat) : Int), w1) else none
    | _ => none
theorem join_no {c : Nat} {y : Str} (hy : c ∉ y.cps.toList) : ∀ {ps : List Str}, (∀ p ∈ ps, c ∉ p.cps.toList) → c ∉ (Str.join y ps).cps.toList
  | [], _ => by intro z; cases z
  | [p], h => h p (.head _)
  | p :: q :: r, h => by
    intro z
    have z' : c ∈ (p ++ y ++ Str.join y (q :: r)).cps.toList := z
    rw [Str.cps_append, Str.cps_append, Array.toList_append, Array.toList_append, List.mem_append, List.mem_append] at z'
    rcases z' with (z' | z') | z'
    · exact h p (.head _) z'
    · exact hy z'
    · exact join_no hy (fun x hx => h x (.tail _ hx)) z'
theorem num_dig {i : Int} (h0 : 0 ≤ i) (h1 : i ≤ 9) : numOf (dig i) = some i := by
  unfold numOf
  rw [(dig_ok h0 h1).1]
  show some ((i.toNat : Nat) : Int) = some i
  rw [Int.toNat_of_nonneg h0]
end My

set_option Elab.async false
set_option linter.all false
set_option maxRecDepth 100000
set_option maxHeartbeats 1000000
namespace My
open PySem L2 PyProof.Rows
def wt (ts : List Str) : Nat := (ts.map (·.length)).sum + 2 * ts.length
theorem wt_cons (x : Str) (ts : List Str) : wt (x :: ts) = x.length + 2 + wt ts := by unfold wt; simp only [List.map_cons, List.sum_cons, List.length_cons]; omega
theorem wt_join {z : Str} (hz : z.length ≤ 2) (ts : List Str) : (Str.join z ts).length ≤ wt ts := by
  have h1 := PySem.StrLaws.join_length_le z ts
  have h3 : ts.length * z.length ≤ ts.length * 2 := Nat.mul_le_mul_left _ hz
  unfold wt
  omega
theorem wt_sz {z : Str} (hz : z.length ≤ 2) {ts : List Str} (h : wt ts ≤ 100000) : (ts.toArray.foldl (· + ·.length + z.length) 0) ≤ sizeLine ∧ (Builtin.Str.glued z ts).length ≤ sizeLine := by
  have h3 : ts.length * z.length ≤ ts.length * 2 := Nat.mul_le_mul_left _ hz
  refine ⟨szN ?_, szN ?_⟩
  · rw [PySem.StrLaws.joinTotal]; unfold wt at h; omega
  · rw [PySem.StrLaws.glued_eq_join]
    have := wt_join hz ts
    omega
theorem Same.updF' {H0 H1 : Hp} {o : Addr} {x : HO} (s : Same H0 H1) (h : H0 o = none) : Same H0 (upd H1 o x) := fun b u z => by
  rw [upd_ne (fun e => by rw [e, h] at z; cases z)]; exact s b u z
theorem asc_join {z : Str} (hz : Asc z) : ∀ {ts : List Str}, (∀ t ∈ ts, Asc t) → Asc (Str.join z ts)
  | [], _ => fun c hc => by cases hc
  | [p], h => h p (.head _)
  | p :: q :: r, h => by
    intro c hc
    have hc : c ∈ (p ++ z ++ Str.join z (q :: r)).cps.toList := hc
    rw [Str.cps_append, Str.cps_append, Array.toList_append, Array.toList_append, List.mem_append, List.mem_append] at hc
    rcases hc with (hc | hc) | hc
    · exact h p (.head _) c hc
    · exact hz c hc
    · exact asc_join hz (fun x hx => h x (.tail _ hx)) c hc
theorem asc_c (s : Str) (h : ∀ c ∈ s.cps.toList, c < 128) : Asc s := h
def TL (n : Nat) (s : Str) : Prop := s.length ≤ n ∧ Asc s
theorem TL.app {n m : Nat} {a b : Str} (h : TL n a) (h' : TL m b) : TL (n + m) (a ++ b) := by
  refine ⟨?_, fun x hx => ?_⟩
  · rw [strLen_append]; have := h.1; have := h'.1; omega
  · rw [app_codes] at hx
    rcases List.mem_append.mp hx with hx | hx
    · exact h.2 x hx
    · exact h'.2 x hx
theorem TL.to {m : Nat} {s : Str} (h : TL m s) {n : Int} (n0 : 0 ≤ n) : TL m (Txt.slice s none (some n)) := by
  have c := slice_to (x := s) n0
  refine ⟨?_, fun x hx => ?_⟩
  · rw [← len_codes, c, List.length_take, len_codes]; have := h.1; omega
  · rw [c] at hx; exact h.2 x (List.mem_of_mem_take hx)
theorem TL.from {m : Nat} {s : Str} (h : TL m s) {n : Int} (n0 : 0 ≤ n) : TL m (Txt.slice s (some n) none) := by
  have c := slice_from (x := s) n0
  refine ⟨?_, fun x hx => ?_⟩
  · rw [← len_codes, c, List.length_drop, len_codes]; have := h.1; omega
  · rw [c] at hx; exact h.2 x (List.mem_of_mem_drop hx)
theorem TL.mid {m : Nat} {s : Str} (h : TL m s) {a b : Int} (a0 : 0 ≤ a) (ab : a ≤ b) : TL m (Txt.slice s (some a) (some b)) := by
  have c : (Txt.slice s (some a) (some b)).cps.toList = (s.cps.toList.drop (min a (s.length : Int)).toNat).take (min b (s.length : Int) - min a (s.length : Int)).toNat := by
    refine slice_codes ?_ (by omega) (by omega) (by omega)
    unfold Builtin.Str.strSliceIndices
    simp only [show (1 : Int) > 0 by decide, if_true, if_neg (show ¬ a < 0 by omega), if_neg (show ¬ b < 0 by omega)]
    congr 1 <;> omega
  refine ⟨?_, fun x hx => ?_⟩
  · rw [← len_codes, c, List.length_take, List.length_drop, len_codes]; have := h.1; omega
  · rw [c] at hx; exact h.2 x (List.mem_of_mem_drop (List.mem_of_mem_take hx))
/-! ### texts of turns -/
def TX (s : Str) : Prop := s.length ≤ 5000 ∧ Asc s
theorem TX.part {s y p : Str} (h : TX s) (hp : p ∈ Txt.split s y) : TX p := by
  refine ⟨Nat.le_trans (PyProof.Rows.part_short hp) h.1, fun c hc => h.2 c ?_⟩
  have e := PySem.StrLaws.join_split s y
  rw [← e]
  have go : ∀ {ps : List Str}, p ∈ ps → c ∈ (Str.join y ps).cps.toList := by
    intro ps
    induction ps with
    | nil => intro z; cases z
    | cons q r ih =>
      intro z
      cases r with
      | nil =>
        rw [List.mem_singleton.mp z] at hc
        exact hc
      | cons q2 r =>
        show c ∈ (q ++ y ++ Str.join y (q2 :: r)).cps.toList
        rw [Str.cps_append, Str.cps_append, Array.toList_append, Array.toList_append, List.mem_append, List.mem_append]
        rcases List.mem_cons.mp z with rfl | z
        · exact .inl (.inl hc)
        · exact .inr (ih z)
  exact go hp
theorem asc_dig {i : Int} (h0 : 0 ≤ i) (h1 : i ≤ 9) : Asc (dig i) := fun c hc => by
  have := (dig_ok h0 h1).2.2 c hc
  omega
abbrev cmS : Str := Str.ofString ","
def cms (s : Str) : List Str := Txt.split s cmS
theorem cms_join {ps : List Str} (h0 : ps ≠ []) (hp : ∀ p ∈ ps, 44 ∉ p.cps.toList) : cms (Str.join cmS ps) = ps := split_join (c := 44) (ts := []) (by decide +kernel) (by decide) (by decide +kernel) h0 hp
/-! ### deeds -/
inductive Dd where
  | come (t s g : Int) (k : Bool)
  | lf (x : Str) (n : Int)
  | sg (x : Str)
abbrev tCome : Str := Str.ofString "come"
abbrev tKey : Str := Str.ofString "key"
def isLf (x : Str) : Prop := x = Str.ofString "block" ∨ x = Str.ofString "stick" ∨ x = Str.ofString "free" ∨ x = Str.ofString "goods" ∨ x = Str.ofString "back"
def isSg (x : Str) : Prop := x = Str.ofString "fire" ∨ x = Str.ofString "calm"
instance (x : Str) : Decidable (isLf x) := by unfold isLf; infer_instance
instance (x : Str) : Decidable (isSg x) := by unfold isSg; infer_instance
def Dd.v : Dd → List V
  | .come t s g k => [.str tCome, .int t, .int s, .int g, .bl k]
  | .lf x n => [.str x, .int n]
  | .sg x => [.str x]
def Dd.ok : Dd → Prop
  | .come _ _ _ _ => True
  | .lf x _ => isLf x
  | .sg x => isSg x
def Dd.isCome : Dd → Bool
  | .come _ _ _ _ => true
  | _ => false
def Dd.next (t : Int) : Dd → Int
  | .come _ _ _ _ => t + 1
  | _ => t
/-- what is due of a deed -/
inductive Du where
  | floor (i : Int)
  | lift (i : Int)
  | ride
  | deed
  | good
abbrev tFloor : Str := Str.ofString "floor"
abbrev tLift : Str := Str.ofString "lift"
abbrev tRide : Str := Str.ofString "ride"
abbrev tDeed : Str := Str.ofString "deed"
abbrev tGood : Str := Str.ofString "good"
def Du.v : Du → List V
  | .floor i => [.str tFloor, .int i]
  | .lift i => [.str tLift, .int i]
  | .ride => [.str tRide, .int 0]
  | .deed => [.str tDeed, .int 0]
  | .good => [.str tGood, .int 0]
def due (fl : Int) (n : Nat) : Dd → Du
  | .come _ s g _ => if s < 0 ∨ fl ≤ s then .floor s else if g < 0 ∨ fl ≤ g then .floor g else if s = g then .ride else .good
  | .lf _ i => if i < 0 ∨ (n : Int) ≤ i then .lift i else .good
  | .sg _ => .good
/-- a part read -/
def rdD (p : Str) (tag : Int) : Option Dd := match wds p with
  | [_] => if isSg p then some (.sg p) else none
  | [a, b] => if isLf a then (numOf b).map (.lf a) else none
  | [a, b, c] => if a = tCome then (numOf b).bind fun s => (numOf c).map fun g => .come tag s g false else none
  | [a, b, c, d] => if a = tCome ∧ d = tKey then (numOf b).bind fun s => (numOf c).map fun g => .come tag s g true else none
  | _ => none
theorem sg_wds {p : Str} (h : isSg p) : wds p = [p] := by rcases h with rfl | rfl <;> decide +kernel
theorem numOf_nn {x : Str} {n : Int} (h : numOf x = some n) : 0 ≤ n := by
  unfold numOf at h
  obtain ⟨k, _, rfl⟩ := Option.map_eq_some_iff.mp h
  omega
/-- a turn's parts read: deeds, or the first refusal -/
def rdT (fl : Int) (n : Nat) : List Str → Int → List Dd ⊕ Du
  | [], _ => .inl []
  | p :: ps, t => match rdD p t with
    | none => .inr .deed
    | some d => match due fl n d with
      | .good => (match rdT fl n ps (d.next t) with | .inl ds => .inl (d :: ds) | .inr u => .inr u)
      | u => .inr u
def pre (ds : List Dd) : List Dd ⊕ Du → List Dd ⊕ Du
  | .inl es => .inl (ds ++ es)
  | .inr u => .inr u
theorem rdT_bad {fl : Int} {n : Nat} {p : Str} {ps : List Str} {t : Int} (h : rdD p t = none) : rdT fl n (p :: ps) t = .inr .deed := by rw [rdT, h]
theorem rdT_no {fl : Int} {n : Nat} {p : Str} {ps : List Str} {t : Int} {d : Dd} (h : rdD p t = some d) (h2 : due fl n d ≠ .good) : rdT fl n (p :: ps) t = .inr (due fl n d) := by
  rw [rdT, h]
  dsimp only
  generalize due fl n d = u at h2
  cases u <;> first | rfl | exact absurd rfl h2
theorem rdT_go {fl : Int} {n : Nat} {p : Str} {ps : List Str} {t : Int} {d : Dd} (ds : List Dd) (h : rdD p t = some d) (h2 : due fl n d = .good) : pre ds (rdT fl n (p :: ps) t) = pre (ds ++ [d]) (rdT fl n ps (d.next t)) := by
  rw [rdT, h]
  dsimp only
  rw [h2]
  dsimp only
  cases rdT fl n ps (d.next t) with
  | inl es => show Sum.inl _ = Sum.inl _; simp
  | inr u => rfl
def rdS (fl : Int) (n : Nat) (x : Str) (t : Int) : List Dd ⊕ Du := if x = Str.ofString "" then .inl [] else rdT fl n (cms x) t
theorem rdT_ne {fl : Int} {n : Nat} : ∀ {ps : List Str} {t : Int}, rdT fl n ps t ≠ .inr .good
  | [], _ => fun z => by cases z
  | p :: ps, t => fun z => by
    cases h : rdD p t with
    | none => rw [rdT_bad h] at z; cases z
    | some d =>
      by_cases h2 : due fl n d = .good
      · have := rdT_go (ps := ps) [] h h2
        rw [z] at this
        cases y : rdT fl n ps (d.next t) with
        | inl es => rw [y] at this; cases this
        | inr u => rw [y] at this; cases this; exact rdT_ne y
      · rw [rdT_no h h2] at z
        exact h2 (Sum.inr.inj z)
theorem rdS_ne {fl : Int} {n : Nat} {x : Str} {t : Int} : rdS fl n x t ≠ .inr .good := by
  unfold rdS
  split
  · intro z; cases z
  · exact rdT_ne
theorem pre_nil (r : List Dd ⊕ Du) : pre [] r = r := by cases r <;> rfl
theorem rdT_len {fl : Int} {n : Nat} : ∀ {ps : List Str} {t : Int} {ds : List Dd}, rdT fl n ps t = .inl ds → ds.length ≤ ps.length
  | [], _, ds, h => by cases h; exact Nat.le_refl _
  | p :: ps, t, ds, h => by
    cases hd : rdD p t with
    | none => rw [rdT_bad hd] at h; cases h
    | some d =>
      by_cases gd : due fl n d = .good
      · have e := rdT_go (ps := ps) [] hd gd
        rw [h] at e
        cases y : rdT fl n ps (d.next t) with
        | inl es =>
          rw [y] at e
          have e : ([] ++ ds) = ([] ++ [d]) ++ es := Sum.inl.inj e
          have := rdT_len y
          rw [show ds = d :: es from e, List.length_cons, List.length_cons]
          omega
        | inr u => rw [y] at e; cases e
      · rw [rdT_no hd gd] at h; cases h
/-! ### deeds written -/
def Dd.fit (fl : Int) (n : Nat) : Dd → Prop
  | .come _ s g _ => 0 ≤ s ∧ s < fl ∧ 0 ≤ g ∧ g < fl ∧ s ≠ g
  | .lf x i => isLf x ∧ 0 ≤ i ∧ i < n
  | .sg x => isSg x
def Dd.ws : Dd → List Str
  | .come _ s g k => [tCome, dig s, dig g] ++ (if k then [tKey] else [])
  | .lf x n => [x, dig n]
  | .sg x => [x]
def ddT (d : Dd) : Str := Str.join spS d.ws
def shT (ds : List Dd) : Str := Str.join cmS (ds.map ddT)
theorem fit_due {fl : Int} {n : Nat} {d : Dd} (h : d.fit fl n) : due fl n d = .good := by
  cases d with
  | come t s g k =>
    obtain ⟨a, b, c, e, f⟩ := h
    exact (if_neg (by omega)).trans ((if_neg (by omega)).trans (if_neg f))
  | lf x i =>
    obtain ⟨_, a, b⟩ := h
    exact if_neg (by omega)
  | sg x => rfl
theorem dig_no3 {i : Int} (h0 : 0 ≤ i) (h1 : i ≤ 9) : 32 ∉ (dig i).cps.toList ∧ 44 ∉ (dig i).cps.toList := by
  have := (dig_ok h0 h1).2.2
  exact ⟨fun z => by have := this 32 z; omega, fun z => by have := this 44 z; omega⟩
theorem lf_no {x : Str} (h : isLf x) : 32 ∉ x.cps.toList ∧ 44 ∉ x.cps.toList := by rcases h with rfl | rfl | rfl | rfl | rfl <;> decide +kernel
theorem sg_no {x : Str} (h : isSg x) : 32 ∉ x.cps.toList ∧ 44 ∉ x.cps.toList := by rcases h with rfl | rfl <;> decide +kernel
theorem come_no : 32 ∉ tCome.cps.toList ∧ 44 ∉ tCome.cps.toList := by decide +kernel
theorem key_no : 32 ∉ tKey.cps.toList ∧ 44 ∉ tKey.cps.toList := by decide +kernel
/-- words of a deed: no blank, no comma, short, plain signs -/
theorem ws_ok {fl : Int} {n : Nat} {d : Dd} (f8 : fl ≤ 8) (n3 : n ≤ 3) (h : d.fit fl n) : ∀ x ∈ d.ws, (32 ∉ x.cps.toList ∧ 44 ∉ x.cps.toList) ∧ x.length ≤ 5 ∧ Asc x := by
  have dg : ∀ i : Int, 0 ≤ i → i ≤ 9 → (32 ∉ (dig i).cps.toList ∧ 44 ∉ (dig i).cps.toList) ∧ (dig i).length ≤ 5 ∧ Asc (dig i) := fun i h0 h1 => ⟨dig_no3 h0 h1, by rw [(dig_ok h0 h1).2.1]; decide, asc_dig h0 h1⟩
  cases d with
  | come t s g k =>
    obtain ⟨a, b, c, e, _⟩ := h
    intro x hx
    have hx : x ∈ [tCome, dig s, dig g] ++ (if k then [tKey] else []) := hx
    rcases List.mem_append.mp hx with z | z
    · simp only [List.mem_cons, List.not_mem_nil, or_false] at z
      rcases z with rfl | rfl | rfl
      · exact ⟨come_no, by decide, asc_c _ (by decide +kernel)⟩
      · exact dg s a (by omega)
      · exact dg g c (by omega)
    · cases k with
      | false => cases z
      | true =>
        rw [List.mem_singleton.mp z]
        exact ⟨key_no, by decide, asc_c _ (by decide +kernel)⟩
  | lf y i =>
    obtain ⟨hl, a, b⟩ := h
    intro x hx
    have hx : x ∈ [y, dig i] := hx
    simp only [List.mem_cons, List.not_mem_nil, or_false] at hx
    rcases hx with rfl | rfl
    · refine ⟨lf_no hl, ?_, ?_⟩
      · rcases hl with rfl | rfl | rfl | rfl | rfl <;> decide
      · rcases hl with rfl | rfl | rfl | rfl | rfl <;> exact asc_c _ (by decide +kernel)
    · exact dg i a (by omega)
  | sg y =>
    intro x hx
    have hx : x ∈ [y] := hx
    rw [List.mem_singleton.mp hx]
    refine ⟨sg_no h, ?_, ?_⟩
    · rcases h with rfl | rfl <;> decide
    · rcases h with rfl | rfl <;> exact asc_c _ (by decide +kernel)
theorem ws_ne (d : Dd) : d.ws ≠ [] := by
  cases d <;> intro z <;> cases z
theorem ws_len (d : Dd) : d.ws.length ≤ 4 := by
  cases d with
  | come t s g k =>
    cases k with
    | true => show 4 ≤ 4; decide
    | false => show 3 ≤ 4; decide
  | lf => show 2 ≤ 4; decide
  | sg => show 1 ≤ 4; decide
theorem wds_ddT {fl : Int} {n : Nat} {d : Dd} (f8 : fl ≤ 8) (n3 : n ≤ 3) (h : d.fit fl n) : wds (ddT d) = d.ws := wds_join (ws_ne d) fun p hp => (ws_ok f8 n3 h p hp).1.1
theorem lf_come {x : Str} (h : isLf x) : x ≠ tCome := by rcases h with rfl | rfl | rfl | rfl | rfl <;> decide +kernel
theorem sg_come {x : Str} (h : isSg x) : x ≠ tCome := by rcases h with rfl | rfl <;> decide +kernel
theorem rdD_text {fl : Int} {n : Nat} {d : Dd} (f8 : fl ≤ 8) (n3 : n ≤ 3) (h : d.fit fl n) (tag : Int) : ∃ e, rdD (ddT d) tag = some e ∧ due fl n e = .good := by
  have w := wds_ddT f8 n3 h
  unfold rdD
  rw [w]
  cases d with
  | come t s g k =>
    have h0 := h
    obtain ⟨a, b, c, e, f⟩ := h
    cases k with
    | true =>
      show ∃ z, (if tCome = tCome ∧ tKey = tKey then (numOf (dig s)).bind fun s => (numOf (dig g)).map fun g => Dd.come tag s g true else none) = some z ∧ _
      rw [if_pos ⟨rfl, rfl⟩, num_dig a (by omega), num_dig c (by omega)]
      exact ⟨.come tag s g true, rfl, fit_due (d := .come tag s g true) h0⟩
    | false =>
      show ∃ z, (if tCome = tCome then (numOf (dig s)).bind fun s => (numOf (dig g)).map fun g => Dd.come tag s g false else none) = some z ∧ _
      rw [if_pos rfl, num_dig a (by omega), num_dig c (by omega)]
      exact ⟨.come tag s g false, rfl, fit_due (d := .come tag s g false) h0⟩
  | lf x i =>
    obtain ⟨hl, a, b⟩ := h
    show ∃ z, (if isLf x then (numOf (dig i)).map (Dd.lf x) else none) = some z ∧ _
    rw [if_pos hl, num_dig a (by omega)]
    exact ⟨.lf x i, rfl, fit_due (d := .lf x i) ⟨hl, a, b⟩⟩
  | sg x =>
    have e : ddT (.sg x) = x := rfl
    show ∃ z, (if isSg (ddT (.sg x)) then some (Dd.sg (ddT (.sg x))) else none) = some z ∧ _
    rw [e, if_pos (show isSg x from h)]
    exact ⟨.sg x, rfl, rfl⟩
theorem rdT_text {fl : Int} {n : Nat} (f8 : fl ≤ 8) (n3 : n ≤ 3) : ∀ {ds : List Dd}, (∀ d ∈ ds, d.fit fl n) → ∀ tag, ∃ es, rdT fl n (ds.map ddT) tag = .inl es
  | [], _, _ => ⟨[], rfl⟩
  | d :: ds, h, tag => by
    obtain ⟨e, h1, h2⟩ := rdD_text f8 n3 (h d (.head _)) tag
    obtain ⟨es, h3⟩ := rdT_text f8 n3 (fun x hx => h x (.tail _ hx)) (e.next tag)
    refine ⟨e :: es, ?_⟩
    have := rdT_go (ps := ds.map ddT) [] h1 h2
    rw [h3] at this
    show rdT fl n (ddT d :: ds.map ddT) tag = _
    cases z : rdT fl n (ddT d :: ds.map ddT) tag with
    | inl xs => rw [z] at this; exact congrArg Sum.inl (by simpa [pre] using this)
    | inr u => rw [z] at this; cases this
theorem rdS_text {fl : Int} {n : Nat} (f8 : fl ≤ 8) (n3 : n ≤ 3) {ds : List Dd} (h : ∀ d ∈ ds, d.fit fl n) (tag : Int) : ∃ es, rdS fl n (shT ds) tag = .inl es := by
  unfold rdS
  by_cases z : shT ds = Str.ofString ""
  · rw [if_pos z]; exact ⟨[], rfl⟩
  · rw [if_neg z]
    unfold shT
    have h0 : ds.map ddT ≠ [] := fun y => z (by unfold shT; rw [y]; show Str.empty = Str.ofString ""; decide +kernel)
    rw [cms_join h0 (by
      intro p hp
      obtain ⟨d, hd, rfl⟩ := List.mem_map.mp hp
      exact join_no (by decide +kernel) fun q hq => (ws_ok f8 n3 (h d hd) q hq).1.2)]
    exact rdT_text f8 n3 h tag
theorem ddT_len {fl : Int} {n : Nat} {d : Dd} (f8 : fl ≤ 8) (n3 : n ≤ 3) (h : d.fit fl n) : (ddT d).length ≤ 13 := by
  have hw := ws_ok f8 n3 h
  cases d with
  | come t s g k =>
    obtain ⟨a, b, c, e, _⟩ := h
    have d1 : (dig s).length = 1 := (dig_ok a (by omega)).2.1
    have d2 : (dig g).length = 1 := (dig_ok c (by omega)).2.1
    cases k with
    | true =>
      show (tCome ++ spS ++ (dig s ++ spS ++ (dig g ++ spS ++ tKey))).length ≤ 13
      simp only [strLen_append, d1, d2]
      decide
    | false =>
      show (tCome ++ spS ++ (dig s ++ spS ++ dig g)).length ≤ 13
      simp only [strLen_append, d1, d2]
      decide
  | lf x i =>
    obtain ⟨hl, a, b⟩ := h
    have d1 : (dig i).length = 1 := (dig_ok a (by omega)).2.1
    have d2 := (hw x (.head _)).2.1
    show (x ++ spS ++ dig i).length ≤ 13
    simp only [strLen_append, d1, show spS.length = 1 from by decide]
    omega
  | sg x =>
    have d2 := (hw x (.head _)).2.1
    show x.length ≤ 13
    omega
theorem ddT_asc {fl : Int} {n : Nat} {d : Dd} (f8 : fl ≤ 8) (n3 : n ≤ 3) (h : d.fit fl n) : Asc (ddT d) := asc_join (asc_c _ (by decide +kernel)) fun x hx => (ws_ok f8 n3 h x hx).2.2
theorem join1_le {z : Str} (hz : z.length ≤ 1) {k : Nat} : ∀ {ts : List Str}, (∀ t ∈ ts, t.length ≤ k) → (Str.join z ts).length ≤ (k + 1) * ts.length := by
  intro ts h
  have h1 := PySem.StrLaws.join_length_le z ts
  have h3 : ts.length * z.length ≤ ts.length * 1 := Nat.mul_le_mul_left _ hz
  have h2 : (ts.map (·.length)).sum ≤ k * ts.length := by
    clear h1 h3
    induction ts with
    | nil => simp
    | cons t ts ih =>
      have := ih fun x hx => h x (.tail _ hx)
      have := h t (.head _)
      simp only [List.map_cons, List.sum_cons, List.length_cons, Nat.mul_succ]
      omega
  have h5 : (k + 1) * ts.length = k * ts.length + ts.length := by rw [Nat.add_mul, Nat.one_mul]
  omega
theorem shT_ok {fl : Int} {n : Nat} {ds : List Dd} (f8 : fl ≤ 8) (n3 : n ≤ 3) (h : ∀ d ∈ ds, d.fit fl n) (hl : ds.length ≤ 90) : TL 1260 (shT ds) := by
  refine ⟨?_, asc_join (asc_c _ (by decide +kernel)) fun x hx => ?_⟩
  · have := join1_le (z := cmS) (k := 13) (by decide) (ts := ds.map ddT) (fun t ht => by obtain ⟨d, hd, rfl⟩ := List.mem_map.mp ht; exact ddT_len f8 n3 (h d hd))
    rw [List.length_map] at this
    unfold shT
    omega
  · obtain ⟨d, hd, rfl⟩ := List.mem_map.mp hx
    exact ddT_asc f8 n3 (h d hd)
end My

set_option Elab.async false
set_option linter.all false
set_option maxRecDepth 100000
set_option maxHeartbeats 1000000
namespace My
open PySem L2 PyProof.Rows
/-! ### days -/
abbrev smS : Str := Str.ofString ";"
def sms (s : Str) : List Str := Txt.split s smS
theorem sms_join {ps : List Str} (h0 : ps ≠ []) (hp : ∀ p ∈ ps, 59 ∉ p.cps.toList) : sms (Str.join smS ps) = ps := split_join (c := 59) (ts := []) (by decide +kernel) (by decide) (by decide +kernel) h0 hp
def nC (ds : List Dd) : Nat := (ds.filter Dd.isCome).length
theorem nC_snoc (ds : List Dd) (d : Dd) : nC (ds ++ [d]) = nC ds + (if d.isCome = true then 1 else 0) := by
  unfold nC
  rw [List.filter_append, List.length_append]
  cases h : d.isCome <;> simp [h]
def rdY (fl : Int) (n : Nat) : List Str → Int → List (List Dd) ⊕ Du
  | [], _ => .inl []
  | p :: ps, t => match rdS fl n p t with
    | .inr u => .inr u
    | .inl ds => match rdY fl n ps (t + (nC ds : Nat)) with
      | .inl r => .inl (ds :: r)
      | .inr u => .inr u
def preY (dss : List (List Dd)) : List (List Dd) ⊕ Du → List (List Dd) ⊕ Du
  | .inl es => .inl (dss ++ es)
  | .inr u => .inr u
theorem preY_nil (r : List (List Dd) ⊕ Du) : preY [] r = r := by cases r <;> rfl
theorem rdY_bad {fl : Int} {n : Nat} {p : Str} {ps : List Str} {t : Int} {u : Du} (h : rdS fl n p t = .inr u) : rdY fl n (p :: ps) t = .inr u := by rw [rdY, h]
theorem rdY_go {fl : Int} {n : Nat} {p : Str} {ps : List Str} {t : Int} {ds : List Dd} (dss : List (List Dd)) (h : rdS fl n p t = .inl ds) : preY dss (rdY fl n (p :: ps) t) = preY (dss ++ [ds]) (rdY fl n ps (t + (nC ds : Nat))) := by
  rw [rdY, h]
  dsimp only
  cases rdY fl n ps (t + (nC ds : Nat)) with
  | inl es => show Sum.inl _ = Sum.inl _; simp
  | inr u => rfl
theorem rdY_ne {fl : Int} {n : Nat} : ∀ {ps : List Str} {t : Int}, rdY fl n ps t ≠ .inr .good
  | [], _ => fun z => by cases z
  | p :: ps, t => fun z => by
    cases h : rdS fl n p t with
    | inr u => rw [rdY_bad h] at z; exact rdS_ne (h.trans (congrArg Sum.inr (Sum.inr.inj z)))
    | inl ds =>
      have := rdY_go (ps := ps) [] h
      rw [z] at this
      cases y : rdY fl n ps (t + (nC ds : Nat)) with
      | inl es => rw [y] at this; cases this
      | inr u => rw [y] at this; cases this; exact rdY_ne y
theorem rdY_len {fl : Int} {n : Nat} : ∀ {ps : List Str} {t : Int} {dss : List (List Dd)}, rdY fl n ps t = .inl dss → dss.length = ps.length
  | [], _, dss, h => by cases h; rfl
  | p :: ps, t, dss, h => by
    cases hd : rdS fl n p t with
    | inr u => rw [rdY_bad hd] at h; cases h
    | inl ds =>
      have e := rdY_go (ps := ps) [] hd
      rw [h] at e
      cases y : rdY fl n ps (t + (nC ds : Nat)) with
      | inl es =>
        rw [y] at e
        have e : ([] ++ dss) = ([] ++ [ds]) ++ es := Sum.inl.inj e
        have := rdY_len y
        rw [show dss = ds :: es from e, List.length_cons, List.length_cons]
        omega
      | inr u => rw [y] at e; cases e
def rdDy (fl : Int) (n : Nat) (x : Str) : List (List Dd) ⊕ Du := rdY fl n (sms x) 0
theorem rdDy_ne {fl : Int} {n : Nat} {x : Str} : rdDy fl n x ≠ .inr .good := rdY_ne
def dyT (dss : List (List Dd)) : Str := Str.join smS (dss.map shT)
theorem ws_59 {fl : Int} {n : Nat} {d : Dd} (f8 : fl ≤ 8) (n3 : n ≤ 3) (h : d.fit fl n) : ∀ x ∈ d.ws, 59 ∉ x.cps.toList := by
  have dg : ∀ i : Int, 0 ≤ i → i ≤ 9 → 59 ∉ (dig i).cps.toList := fun i h0 h1 z => by have := (dig_ok h0 h1).2.2 59 z; omega
  cases d with
  | come t s g k =>
    obtain ⟨a, b, c, e, _⟩ := h
    intro x hx
    have hx : x ∈ [tCome, dig s, dig g] ++ (if k then [tKey] else []) := hx
    rcases List.mem_append.mp hx with z | z
    · simp only [List.mem_cons, List.not_mem_nil, or_false] at z
      rcases z with rfl | rfl | rfl
      · decide +kernel
      · exact dg s a (by omega)
      · exact dg g c (by omega)
    · cases k with
      | false => cases z
      | true =>
        rw [List.mem_singleton.mp z]
        decide +kernel
  | lf y i =>
    obtain ⟨hl, a, b⟩ := h
    intro x hx
    have hx : x ∈ [y, dig i] := hx
    simp only [List.mem_cons, List.not_mem_nil, or_false] at hx
    rcases hx with rfl | rfl
    · rcases hl with rfl | rfl | rfl | rfl | rfl <;> decide +kernel
    · exact dg i a (by omega)
  | sg y =>
    intro x hx
    have hx : x ∈ [y] := hx
    rw [List.mem_singleton.mp hx]
    rcases h with rfl | rfl <;> decide +kernel
theorem rdY_text {fl : Int} {n : Nat} (f8 : fl ≤ 8) (n3 : n ≤ 3) : ∀ {dss : List (List Dd)}, (∀ ds ∈ dss, ∀ d ∈ ds, d.fit fl n) → ∀ tag, ∃ es, rdY fl n (dss.map shT) tag = .inl es
  | [], _, _ => ⟨[], rfl⟩
  | ds :: dss, h, tag => by
    obtain ⟨es, h1⟩ := rdS_text f8 n3 (h ds (.head _)) tag
    obtain ⟨r, h3⟩ := rdY_text f8 n3 (fun x hx => h x (.tail _ hx)) (tag + (nC es : Nat))
    refine ⟨es :: r, ?_⟩
    show rdY fl n (shT ds :: dss.map shT) tag = _
    rw [rdY, h1]
    dsimp only
    rw [h3]
theorem rdDy_text {fl : Int} {n : Nat} (f8 : fl ≤ 8) (n3 : n ≤ 3) {dss : List (List Dd)} (h0 : dss ≠ []) (h : ∀ ds ∈ dss, ∀ d ∈ ds, d.fit fl n) : ∃ es, rdDy fl n (dyT dss) = .inl es := by
  unfold rdDy dyT
  rw [sms_join (by simpa using h0) (by
    intro p hp
    obtain ⟨ds, hd, rfl⟩ := List.mem_map.mp hp
    refine join_no (by decide +kernel) fun q hq => ?_
    obtain ⟨d, hd', rfl⟩ := List.mem_map.mp hq
    exact join_no (by decide +kernel) fun r hr => ws_59 f8 n3 (h ds hd d hd') r hr)]
  exact rdY_text f8 n3 h 0
def tot (dss : List (List Dd)) : Nat := (dss.map List.length).sum
theorem shT_len {fl : Int} {n : Nat} {ds : List Dd} (f8 : fl ≤ 8) (n3 : n ≤ 3) (h : ∀ d ∈ ds, d.fit fl n) : (shT ds).length ≤ 14 * ds.length := by
  have := join1_le (z := cmS) (k := 13) (by decide) (ts := ds.map ddT) (fun t ht => by obtain ⟨d, hd, rfl⟩ := List.mem_map.mp ht; exact ddT_len f8 n3 (h d hd))
  rw [List.length_map] at this
  unfold shT
  omega
theorem shT_asc {fl : Int} {n : Nat} {ds : List Dd} (f8 : fl ≤ 8) (n3 : n ≤ 3) (h : ∀ d ∈ ds, d.fit fl n) : Asc (shT ds) := asc_join (asc_c _ (by decide +kernel)) fun x hx => by
  obtain ⟨d, hd, rfl⟩ := List.mem_map.mp hx
  exact ddT_asc f8 n3 (h d hd)
theorem dy_sum {fl : Int} {n : Nat} (f8 : fl ≤ 8) (n3 : n ≤ 3) : ∀ {dss : List (List Dd)}, (∀ ds ∈ dss, ∀ d ∈ ds, d.fit fl n) → ((dss.map shT).map (·.length)).sum ≤ 14 * tot dss
  | [], _ => Nat.zero_le _
  | ds :: dss, h => by
    have := dy_sum f8 n3 fun x hx => h x (.tail _ hx)
    have := shT_len f8 n3 (h ds (.head _))
    unfold tot at *
    simp only [List.map_cons, List.sum_cons] at *
    omega
theorem dyT_ok {fl : Int} {n : Nat} {dss : List (List Dd)} (f8 : fl ≤ 8) (n3 : n ≤ 3) (h : ∀ ds ∈ dss, ∀ d ∈ ds, d.fit fl n) (hl : dss.length ≤ 9) (ht : tot dss ≤ 85) : TL 1300 (dyT dss) := by
  refine ⟨?_, asc_join (asc_c _ (by decide +kernel)) fun x hx => ?_⟩
  · have h1 := PySem.StrLaws.join_length_le smS (dss.map shT)
    have h2 := dy_sum f8 n3 h
    have h3 : (dss.map shT).length * smS.length ≤ (dss.map shT).length * 1 := Nat.mul_le_mul_left _ (by decide)
    rw [List.length_map] at h3 h1
    have h4 : (dss.map shT).length = dss.length := List.length_map _
    unfold dyT
    omega
  · obtain ⟨ds, hd, rfl⟩ := List.mem_map.mp hx
    exact shT_asc f8 n3 (h ds hd)
theorem tot_set : ∀ {dss : List (List Dd)} {i : Nat} {ds : List Dd} {d : Dd}, dss[i]? = some ds → tot (dss.set i (ds ++ [d])) = tot dss + 1
  | _ :: dss, 0, ds, d, h => by
    cases h
    unfold tot
    simp only [List.set_cons_zero, List.map_cons, List.sum_cons, List.length_append, List.length_singleton]
    omega
  | e :: dss, i + 1, ds, d, h => by
    have := tot_set (dss := dss) (i := i) (ds := ds) (d := d) h
    unfold tot at *
    simp only [List.set_cons_succ, List.map_cons, List.sum_cons] at *
    omega
end My

set_option Elab.async false
set_option linter.all false
set_option maxRecDepth 100000
set_option maxHeartbeats 1000000
namespace My
open PySem L2 PyProof.Rows
seal PE PT PS PSs PA PI PG PGs PTs PW PO OpR UnR CallR IxR MtR SlR PSet
seal ifB seqLen seqAt signAt catL seqIn intOf isiRef seqTru slSeq joinL appL allL listL tupL itSeq setL unpT forW cmpW wWhile CMul CDiv CPow strIn findV tCut eqRef revL
seal catA isiAny isiExc L2.fldAt L2.putAt L2.methAt newAt clrL rvsL extL popL excO mkT mkL catB anyL seqInD tMk0
seal xputAt xfldAt initAt cmpWX
def top (i : Nat) : Stmt := PySem.Challenge.pw_liftcourt_k41_days_written.main.body.getD i (.Pass ⟨0, 0, 0, 0⟩)
abbrev sNeedFloor : Stmt := top 15
theorem scNeedFloor : FnScope ["house", "floor"] ["house", "floor"] (defScope sNeedFloor) := ⟨rfl, rfl, rfl, by decide +kernel, rfl, by decide +kernel, by decide +kernel⟩
abbrev sNeedLift : Stmt := top 16
theorem scNeedLift : FnScope ["house", "lift"] ["house", "lift"] (defScope sNeedLift) := ⟨rfl, rfl, rfl, by decide +kernel, rfl, by decide +kernel, by decide +kernel⟩
abbrev sNeedRide : Stmt := top 17
theorem scNeedRide : FnScope ["house", "start", "goal"] ["house", "start", "goal"] (defScope sNeedRide) := ⟨rfl, rfl, rfl, by decide +kernel, rfl, by decide +kernel, by decide +kernel⟩
abbrev sNeedDeed : Stmt := top 18
theorem scNeedDeed : FnScope ["house", "deed"] ["house", "deed"] (defScope sNeedDeed) := ⟨rfl, rfl, rfl, by decide +kernel, rfl, by decide +kernel, by decide +kernel⟩
abbrev sWritesNumber : Stmt := top 22
theorem scWritesNumber : FnScope ["text"] ["text"] (defScope sWritesNumber) := ⟨rfl, rfl, rfl, by decide +kernel, rfl, by decide +kernel, by decide +kernel⟩
abbrev sNumberOf : Stmt := top 23
theorem scNumberOf : FnScope ["text"] ["text"] (defScope sNumberOf) := ⟨rfl, rfl, rfl, by decide +kernel, rfl, by decide +kernel, by decide +kernel⟩
abbrev sReadNumber : Stmt := top 27
theorem scReadNumber : FnScope ["word", "number"] ["word"] (defScope sReadNumber) := ⟨rfl, rfl, rfl, by decide +kernel, rfl, by decide +kernel, by decide +kernel⟩
abbrev sReadDeed : Stmt := top 28
theorem scReadDeed : FnScope ["part", "tag", "words", "name"] ["part", "tag"] (defScope sReadDeed) := ⟨rfl, rfl, rfl, by decide +kernel, rfl, by decide +kernel, by decide +kernel⟩
abbrev sComings : Stmt := top 29
theorem scComings : FnScope ["deeds"] ["deeds"] (defScope sComings) := ⟨rfl, rfl, rfl, by decide +kernel, rfl, by decide +kernel, by decide +kernel⟩
abbrev sReadTurn : Stmt := top 30
theorem scReadTurn : FnScope ["text", "house", "first", "deeds", "tag", "parts", "part", "deed"] ["text", "house", "first"] (defScope sReadTurn) := ⟨rfl, rfl, rfl, by decide +kernel, rfl, by decide +kernel, by decide +kernel⟩
abbrev sReadDay : Stmt := top 31
theorem scReadDay : FnScope ["text", "house", "day", "first", "part", "deeds"] ["text", "house"] (defScope sReadDay) := ⟨rfl, rfl, rfl, by decide +kernel, rfl, by decide +kernel, by decide +kernel⟩
abbrev sShownDeed : Stmt := top 32
theorem scShownDeed : FnScope ["deed", "words"] ["deed"] (defScope sShownDeed) := ⟨rfl, rfl, rfl, by decide +kernel, rfl, by decide +kernel, by decide +kernel⟩
abbrev sShownTurn : Stmt := top 33
theorem scShownTurn : FnScope ["deeds"] ["deeds"] (defScope sShownTurn) := ⟨rfl, rfl, rfl, by decide +kernel, rfl, by decide +kernel, by decide +kernel⟩
abbrev sShownDay : Stmt := top 34
theorem scShownDay : FnScope ["day"] ["day"] (defScope sShownDay) := ⟨rfl, rfl, rfl, by decide +kernel, rfl, by decide +kernel, by decide +kernel⟩
abbrev sLCell : Stmt := top 36
theorem scLCell : FnScope ["_law_script", "_law_k"] ["_law_script", "_law_k"] (defScope sLCell) := ⟨rfl, rfl, rfl, by decide +kernel, rfl, by decide +kernel, by decide +kernel⟩
abbrev sLDraw : Stmt := top 37
theorem scLDraw : FnScope ["_law_script", "_law_k", "_law_prime", "_law_many"] ["_law_script", "_law_k", "_law_prime", "_law_many"] (defScope sLDraw) := ⟨rfl, rfl, rfl, by decide +kernel, rfl, by decide +kernel, by decide +kernel⟩
abbrev sLGreat : Stmt := top 38
theorem scLGreat : FnScope ["_law_script", "_law_k", "_law_most", "_law_mixed"] ["_law_script", "_law_k", "_law_most"] (defScope sLGreat) := ⟨rfl, rfl, rfl, by decide +kernel, rfl, by decide +kernel, by decide +kernel⟩
abbrev sLWhole : Stmt := top 39
theorem scLWhole : FnScope ["_law_thing"] ["_law_thing"] (defScope sLWhole) := ⟨rfl, rfl, rfl, by decide +kernel, rfl, by decide +kernel, by decide +kernel⟩
abbrev sLTag : Stmt := top 40
theorem scLTag : FnScope ["_law_script", "_law_number_here", "_law_far"] ["_law_script", "_law_number_here"] (defScope sLTag) := ⟨rfl, rfl, rfl, by decide +kernel, rfl, by decide +kernel, by decide +kernel⟩
abbrev sLLift : Stmt := top 41
theorem scLLift : FnScope ["_law_script", "_law_at", "_law_floors", "_law_kind", "_law_start"] ["_law_script", "_law_at", "_law_floors"] (defScope sLLift) := ⟨rfl, rfl, rfl, by decide +kernel, rfl, by decide +kernel, by decide +kernel⟩
abbrev sLHouse : Stmt := top 42
theorem scLHouse : FnScope ["_law_script", "_law_most", "_law_floors", "_law_many", "_law_locked", "_law_sort"] ["_law_script", "_law_most"] (defScope sLHouse) := ⟨rfl, rfl, rfl, by decide +kernel, rfl, by decide +kernel, by decide +kernel⟩
abbrev sLRider : Stmt := top 43
theorem scLRider : FnScope ["_law_script", "_law_at", "_law_house_here", "_law_tag_here", "_law_lifts", "_law_start", "_law_goal"] ["_law_script", "_law_at", "_law_house_here", "_law_tag_here", "_law_lifts"] (defScope sLRider) := ⟨rfl, rfl, rfl, by decide +kernel, rfl, by decide +kernel, by decide +kernel⟩
abbrev sLDeed : Stmt := top 44
theorem scLDeed : FnScope ["_law_script", "_law_at", "_law_house_here", "_law_tag_here", "_law_way", "_law_lift_here", "_law_one"] ["_law_script", "_law_at", "_law_house_here", "_law_tag_here"] (defScope sLDeed) := ⟨rfl, rfl, rfl, by decide +kernel, rfl, by decide +kernel, by decide +kernel⟩
abbrev sLShownDeed : Stmt := top 45
theorem scLShownDeed : FnScope ["_law_deed_here", "_law_text"] ["_law_deed_here"] (defScope sLShownDeed) := ⟨rfl, rfl, rfl, by decide +kernel, rfl, by decide +kernel, by decide +kernel⟩
abbrev sLShown : Stmt := top 46
theorem scLShown : FnScope ["_law_deeds"] ["_law_deeds"] (defScope sLShown) := ⟨rfl, rfl, rfl, by decide +kernel, rfl, by decide +kernel, by decide +kernel⟩
abbrev sLNumber : Stmt := top 47
theorem scLNumber : FnScope ["_law_word", "_law_sign"] ["_law_word"] (defScope sLNumber) := ⟨rfl, rfl, rfl, by decide +kernel, rfl, by decide +kernel, by decide +kernel⟩
abbrev sLComeRead : Stmt := top 48
theorem scLComeRead : FnScope ["_law_words", "_law_house_here", "_law_tag_here", "_law_start", "_law_goal", "_law_floor"] ["_law_words", "_law_house_here", "_law_tag_here"] (defScope sLComeRead) := ⟨rfl, rfl, rfl, by decide +kernel, rfl, by decide +kernel, by decide +kernel⟩
abbrev sLPartRead : Stmt := top 49
theorem scLPartRead : FnScope ["_law_part", "_law_house_here", "_law_tag_here", "_law_words", "_law_lift_here"] ["_law_part", "_law_house_here", "_law_tag_here"] (defScope sLPartRead) := ⟨rfl, rfl, rfl, by decide +kernel, rfl, by decide +kernel, by decide +kernel⟩
abbrev sLTurnRead : Stmt := top 50
theorem scLTurnRead : FnScope ["_law_text", "_law_house_here", "_law_first", "_law_deeds", "_law_part", "_law_found"] ["_law_text", "_law_house_here", "_law_first"] (defScope sLTurnRead) := ⟨rfl, rfl, rfl, by decide +kernel, rfl, by decide +kernel, by decide +kernel⟩
abbrev sLBent : Stmt := top 51
theorem scLBent : FnScope ["_law_script", "_law_text", "_law_way", "_law_at", "_law_sign"] ["_law_script", "_law_text"] (defScope sLBent) := ⟨rfl, rfl, rfl, by decide +kernel, rfl, by decide +kernel, by decide +kernel⟩
abbrev sLSame : Stmt := top 52
theorem scLSame : FnScope ["_law_told", "_law_due", "_law_k", "_law_number_here"] ["_law_told", "_law_due"] (defScope sLSame) := ⟨rfl, rfl, rfl, by decide +kernel, rfl, by decide +kernel, by decide +kernel⟩
abbrev sLName : Stmt := top 53
theorem scLName : FnScope ["_law_error", "_law_names"] ["_law_error"] (defScope sLName) := ⟨rfl, rfl, rfl, by decide +kernel, rfl, by decide +kernel, by decide +kernel⟩
abbrev sLDay : Stmt := top 54
theorem scLDay : FnScope ["_law_script", "_law_house_here", "_law_day_here", "_law_k", "_law_m", "_law_at"] ["_law_script", "_law_house_here"] (defScope sLDay) := ⟨rfl, rfl, rfl, by decide +kernel, rfl, by decide +kernel, by decide +kernel⟩
abbrev sLDayRead : Stmt := top 55
theorem scLDayRead : FnScope ["_law_text", "_law_house_here", "_law_day_here", "_law_first", "_law_part", "_law_found"] ["_law_text", "_law_house_here"] (defScope sLDayRead) := ⟨rfl, rfl, rfl, by decide +kernel, rfl, by decide +kernel, by decide +kernel⟩
abbrev sLRead : Stmt := top 56
theorem scLRead : FnScope ["_law_text", "_law_house_here", "_law_told", "_law_error", "e"] ["_law_text", "_law_house_here"] (defScope sLRead) := ⟨rfl, rfl, rfl, by decide +kernel, rfl, by decide +kernel, by decide +kernel⟩
abbrev sLRight : Stmt := top 57
theorem scLRight : FnScope ["_law_found", "_law_due", "_law_k"] ["_law_found", "_law_due"] (defScope sLRight) := ⟨rfl, rfl, rfl, by decide +kernel, rfl, by decide +kernel, by decide +kernel⟩
abbrev sLaw : Stmt := top 58
theorem scLaw : FnScope ["_law_script", "_law_house_here", "_law_day_here", "_law_handed", "_law_shown_here", "_law_text", "_law_due", "_law_found", "_law_plain"] ["_law_script"] (defScope sLaw) := ⟨rfl, rfl, rfl, by decide +kernel, rfl, by decide +kernel, by decide +kernel⟩
abbrev sNofloorInit : Stmt := clsAt (top 10) 0
theorem scNofloorInit : FnScope ["self", "floor"] ["self", "floor"] (defScope sNofloorInit) := ⟨rfl, rfl, rfl, by decide +kernel, rfl, by decide +kernel, by decide +kernel⟩
abbrev sNoliftInit : Stmt := clsAt (top 11) 0
theorem scNoliftInit : FnScope ["self", "lift"] ["self", "lift"] (defScope sNoliftInit) := ⟨rfl, rfl, rfl, by decide +kernel, rfl, by decide +kernel, by decide +kernel⟩
abbrev sTwiceInit : Stmt := clsAt (top 12) 0
abbrev sToomanyInit : Stmt := clsAt (top 13) 0
section
variable {P : Program} {w : World} {K : PySem.W.Frag} {mg : Str → Option Value} {base : Heap} {f : Addr} {fd : FuncData}
/-! ### draws -/
theorem szL {n : Nat} (h : n < 1000000) : n < sizeLine := by rw [sizeLine_eq]; omega
def ScB (K : PySem.W.Frag) (H : Hp) (a : Addr) (ns : List Int) : Prop := Scr K H a ns ∧ ∀ i ∈ ns, Builtin.Int.intBits i ≤ 2 ^ 20
theorem ScB.same {H H' : Hp} {a : Addr} {ns : List Int} (h : ScB K H a ns) (s : Same H H') : ScB K H' a ns := ⟨⟨s.seq h.1.1, h.1.2⟩, h.2⟩
def spCell (K : PySem.W.Frag) : Sp := fun vs H Q _ => ∃ a ns k, vs = [.ref a, .int k] ∧ ScB K H a ns ∧ 0 ≤ k ∧ ∀ i : Int, Builtin.Int.intBits i ≤ 2 ^ 20 → Q (.int i) H
theorem cellI {H : Hp} {a : Addr} {ns : List Int} {k : Int} {Q : VK} {E : XK} (h1 : ScB K H a ns) (h2 : 0 ≤ k) (g : ∀ i : Int, Builtin.Int.intBits i ≤ 2 ^ 20 → Q (.int i) H) : spCell K [.ref a, .int k] H Q E := ⟨a, ns, k, rfl, h1, h2, g⟩
theorem ok_cell (F : Fun K "_law_cell" "_law_cell" sLCell f fd) (m_len : mg "len" = none) : FnOk P w K mg base CX0 1 f fd ["_law_script", "_law_k"] (spCell K) := by
  refine F.ok scLCell (fun vs H Q E h => ?_) (fun cdv A outer s H vs Q E hr h => ?_)
  · obtain ⟨a, ns, k, rfl, _⟩ := h
    rfl
  obtain ⟨a, ns, k, rfl, ⟨⟨hS, h63⟩, hB⟩, k0, q⟩ := h
  refine ⟨_, (pss_cons (ws_if (wt_cmp w_lt (wv 1) (pe_callBP (w_len (K := K) rfl) rfl m_len PySem.boot_len (pa_c (wv 0) pa_nil)) (nomark _)) (pss_one (ps_ret (pe_ix (w_ix (K := K) rfl) (wv 0) (wv 1) (fun _ _ => rfl)))) pss_nil) (pss_one (ps_ret pe_int))), ?_⟩
  conv => whnf
  refine seqLenL hS ?_
  conv => whnf
  rw [List.length_map]
  refine ifD (fun hl => ?_) (fun hl => ?_)
  · conv => whnf
    refine seqAtL hS (atI_ints k0 hl) (q _ (hB _ ?_))
    first | exact List.getElem_mem _ | exact List.get_mem _ _ | (rw [List.getD_eq_getElem?_getD, List.getElem?_eq_getElem (by omega)]; exact List.getElem_mem _)
  · exact q 0 (by decide)
seal spCell
def spDr (K : PySem.W.Frag) : Sp := fun vs H Q _ => ∃ a ns k p m, vs = [.ref a, .int k, .int p, .int m] ∧ ScB K H a ns ∧ 0 ≤ k ∧ k < 1000 ∧ 0 < p ∧ 0 < m ∧ ∀ i : Int, 0 ≤ i → i < m → Q (.int i) H
theorem drI {H : Hp} {a : Addr} {ns : List Int} {k p m : Int} {Q : VK} {E : XK} (h1 : ScB K H a ns) (h2 : 0 ≤ k) (h3 : k < 1000) (h4 : 0 < p) (h5 : 0 < m) (g : ∀ i : Int, 0 ≤ i → i < m → Q (.int i) H) : spDr K [.ref a, .int k, .int p, .int m] H Q E := ⟨a, ns, k, p, m, rfl, h1, h2, h3, h4, h5, g⟩
theorem ok_dr (F : Fun K "_law_draw" "_law_draw" sLDraw f fd) (c_law_cell : Cal P w K mg base 1 "_law_cell" ["_law_script", "_law_k"] (spCell K)) : FnOk P w K mg base CX0 2 f fd ["_law_script", "_law_k", "_law_prime", "_law_many"] (spDr K) := by
  refine F.ok scLDraw (fun vs H Q E h => ?_) (fun cdv A outer s H vs Q E hr h => ?_)
  · obtain ⟨a, ns, k, p, m, rfl, _⟩ := h
    rfl
  obtain ⟨a, ns, k, p, m, rfl, hS, k0, k1, p0, m0, q⟩ := h
  refine ⟨_, (pss_one (ps_ret (pe_op w_mod (pe_op w_mod (pe_op (w_addY (K := K) rfl) (pe_op (w_addY (K := K) rfl) (pe_op w_mul (pe_fnP c_law_cell hr (by decide) rfl (pa_c (wv 0) (pa_c (wv 1) pa_nil))) pe_int) (pe_op w_mul (pe_op w_mul pe_int (wv 1)) (wv 1))) pe_int) (wv 2)) (wv 3)))), ?_⟩
  conv => whnf
  refine cellI hS k0 fun i hi => ?_
  refine ⟨cmul_r (by decide) (by decide), cmul_l (by decide) (by decide), cmul_r (by omega) (by omega), by omega, by omega, ?_⟩
  exact q _ (Int.emod_nonneg _ (by omega)) (Int.emod_lt_of_pos _ m0)
seal spDr
def spGr (K : PySem.W.Frag) : Sp := fun vs H Q _ => ∃ a ns k m, vs = [.ref a, .int k, .int m] ∧ ScB K H a ns ∧ 0 ≤ k ∧ k < 1000 ∧ 0 ≤ m ∧ ∀ i : Int, 0 ≤ i → i ≤ m → Q (.int i) H
theorem grI {H : Hp} {a : Addr} {ns : List Int} {k m : Int} {Q : VK} {E : XK} (h1 : ScB K H a ns) (h2 : 0 ≤ k) (h3 : k < 1000) (h5 : 0 ≤ m) (g : ∀ i : Int, 0 ≤ i → i ≤ m → Q (.int i) H) : spGr K [.ref a, .int k, .int m] H Q E := ⟨a, ns, k, m, rfl, h1, h2, h3, h5, g⟩
theorem ok_gr (F : Fun K "_law_great" "_law_great" sLGreat f fd) (c_law_cell : Cal P w K mg base 1 "_law_cell" ["_law_script", "_law_k"] (spCell K)) : FnOk P w K mg base CX0 2 f fd ["_law_script", "_law_k", "_law_most"] (spGr K) := by
  refine F.ok scLGreat (fun vs H Q E h => ?_) (fun cdv A outer s H vs Q E hr h => ?_)
  · obtain ⟨a, ns, k, m, rfl, _⟩ := h
    rfl
  obtain ⟨a, ns, k, m, rfl, hS, k0, k1, m0, q⟩ := h
  refine ⟨_, (pss_cons (ps_set (i := 3) scLGreat.nd rfl (Or.inl rfl) (pe_op (w_addY (K := K) rfl) (pe_op (w_addY (K := K) rfl) (pe_op w_mulB (pe_fnP c_law_cell hr (by decide) rfl (pa_c (wv 0) (pa_c (wv 1) pa_nil))) pe_int) (pe_op w_mulB (pe_op w_mulB pe_int (wv 1)) (wv 1))) pe_int)) (pss_one (ps_ret (pe_op w_mod (pe_op w_mulB (wv 3) (pe_op w_pow pe_int pe_int)) (pe_op (w_addY (K := K) rfl) (wv 2) pe_int))))), ?_⟩
  conv => whnf
  refine cellI hS k0 fun i hi => ?_
  refine ⟨(cmul_r (by decide) (by decide)).ok, (cmul_l (by decide) (by decide)).ok, (cmul_r (by omega) (by omega)).ok, ?_⟩
  conv => whnf
  refine ⟨cpowI (by decide) (by decide) (by decide), great_ok hi k0 k1, ?_⟩
  conv => whnf
  refine ⟨by omega, ?_⟩
  exact q _ (Int.emod_nonneg _ (by omega)) (Int.le_of_lt_add_one (Int.emod_lt_of_pos _ (by omega)))
seal spGr
def spWhole : Sp := fun vs H Q _ => ∃ i : Int, vs = [.int i] ∧ Q (.bl true) H
theorem wholeI {H : Hp} {i : Int} {Q : VK} {E : XK} (g : Q (.bl true) H) : spWhole [.int i] H Q E := ⟨i, rfl, g⟩
theorem ok_whole (F : Fun K "_law_whole" "_law_whole" sLWhole f fd) (m_isinstance : mg "isinstance" = none) (m_int : mg "int" = none) (m_bool : mg "bool" = none) : FnOk P w K mg base CX0 1 f fd ["_law_thing"] spWhole := by
  refine F.ok scLWhole (fun vs H Q E h => ?_) (fun cdv A outer s H vs Q E hr h => ?_)
  · obtain ⟨i, rfl, _⟩ := h
    rfl
  obtain ⟨i, rfl, q⟩ := h
  refine ⟨_, (pss_one (ps_ret (we_and (pe_callBP (w_isiX (K := K) rfl) rfl m_isinstance boot_isinstance (pa_c (wv 0) (pa_c (pe_bltn (v := .ty "int") rfl m_int boot_int rfl) pa_nil))) (pe_one (we_not (K := K) rfl (pe_callBP (w_isiX (K := K) rfl) rfl m_isinstance boot_isinstance (pa_c (wv 0) (pa_c (pe_bltn (v := .ty "bool") rfl m_bool boot_bool rfl) pa_nil)))))))), ?_⟩
  refine ⟨rfl, ifB_t rfl ⟨rfl, q⟩⟩
seal spWhole
def spTag (K : PySem.W.Frag) : Sp := fun vs H Q _ => ∃ a ns k, vs = [.ref a, .int k] ∧ ScB K H a ns ∧ 0 ≤ k ∧ k < 1000 ∧ ∀ i : Int, Q (.int i) H
theorem tagI {H : Hp} {a : Addr} {ns : List Int} {k : Int} {Q : VK} {E : XK} (h1 : ScB K H a ns) (h2 : 0 ≤ k) (h3 : k < 1000) (g : ∀ i : Int, Q (.int i) H) : spTag K [.ref a, .int k] H Q E := ⟨a, ns, k, rfl, h1, h2, h3, g⟩
theorem ok_tag (F : Fun K "_law_tag" "_law_tag" sLTag f fd) (c_law_draw : Cal P w K mg base 2 "_law_draw" ["_law_script", "_law_k", "_law_prime", "_law_many"] (spDr K)) (c_law_great : Cal P w K mg base 2 "_law_great" ["_law_script", "_law_k", "_law_most"] (spGr K)) : FnOk P w K mg base CX0 3 f fd ["_law_script", "_law_number_here"] (spTag K) := by
  refine F.ok scLTag (fun vs H Q E h => ?_) (fun cdv A outer s H vs Q E hr h => ?_)
  · obtain ⟨a, ns, k, rfl, _⟩ := h
    rfl
  obtain ⟨a, ns, k, rfl, hS, k0, k1, q⟩ := h
  refine ⟨_, (pss_cons (ps_set (i := 2) scLTag.nd rfl (Or.inl rfl) (pe_fnP c_law_great hr (by decide) rfl (pa_c (wv 0) (pa_c pe_int (pa_c (pe_op w_pow pe_int pe_int) pa_nil))))) (pss_cons (ws_if (wt_cmp (w_eqA (K := K) rfl hr) (pe_fnP c_law_draw hr (by decide) rfl (pa_c (wv 0) (pa_c pe_int (pa_c pe_int (pa_c pe_int pa_nil))))) pe_int (nomark _)) (pss_one (ps_ret (wv 1))) pss_nil) (pss_cons (ws_if (wt_cmp (w_eqA (K := K) rfl hr) (pe_fnP c_law_draw hr (by decide) rfl (pa_c (wv 0) (pa_c pe_int (pa_c pe_int (pa_c pe_int pa_nil))))) pe_int (nomark _)) (pss_one (ps_ret (pe_op (w_addY (K := K) rfl) (pe_op w_mul (wv 2) pe_int) (wv 1)))) pss_nil) (pss_one (ps_ret (pe_op (w_addY (K := K) rfl) (pe_op w_mul (wv 1) (pe_op w_pow pe_int pe_int)) (wv 2))))))), ?_⟩
  conv => whnf
  refine ⟨cpowI (by decide) (by decide) (by decide), ?_⟩
  conv => whnf
  refine grI hS (by decide) (by decide) (by decide) fun x x0 x1 => ?_
  conv => whnf
  refine drI hS (by decide) (by decide) (by decide) (by decide) fun i i0 i1 => ?_
  conv => whnf
  refine ifD (fun z => ?_) (fun z => ?_)
  · exact q _
  conv => whnf
  refine drI hS (by decide) (by decide) (by decide) (by decide) fun j j0 j1 => ?_
  conv => whnf
  refine ifD (fun z => ?_) (fun z => ?_)
  · conv => whnf
    exact ⟨cmul_r (by decide) (by decide), q _⟩
  · conv => whnf
    refine ⟨cpowI (by decide) (by decide) (by decide), ?_⟩
    conv => whnf
    exact ⟨cmul_l (by omega) (by omega), q _⟩
seal spTag
theorem kind_at {x y z : V} {i : Int} (h0 : 0 ≤ i) (h1 : i < 3) : ∃ s, atI [x, y, z] i = some s := by
  rcases (show i = 0 ∨ i = 1 ∨ i = 2 by omega) with rfl | rfl | rfl
  · exact ⟨x, rfl⟩
  · exact ⟨y, rfl⟩
  · exact ⟨z, rfl⟩
def spLift (K : PySem.W.Frag) : Sp := fun vs H Q _ => ∃ a ns k fl, vs = [.ref a, .int k, .int fl] ∧ ScB K H a ns ∧ 0 ≤ k ∧ k < 1000 ∧ 0 < fl ∧ ∀ v H', Same H H' → Q v H'
theorem liftI {H : Hp} {a : Addr} {ns : List Int} {k fl : Int} {Q : VK} {E : XK} (h1 : ScB K H a ns) (h2 : 0 ≤ k) (h3 : k < 1000) (h4 : 0 < fl) (g : ∀ v H', Same H H' → Q v H') : spLift K [.ref a, .int k, .int fl] H Q E := ⟨a, ns, k, fl, rfl, h1, h2, h3, h4, g⟩
theorem ok_lift (F : Fun K "_law_lift" "_law_lift" sLLift f fd) (c_law_draw : Cal P w K mg base 2 "_law_draw" ["_law_script", "_law_k", "_law_prime", "_law_many"] (spDr K)) : FnOk P w K mg base CX0 3 f fd ["_law_script", "_law_at", "_law_floors"] (spLift K) := by
  refine F.ok scLLift (fun vs H Q E h => ?_) (fun cdv A outer s H vs Q E hr h => ?_)
  · obtain ⟨a, ns, k, fl, rfl, _⟩ := h
    rfl
  obtain ⟨a, ns, k, fl, rfl, hS, k0, k1, f0, q⟩ := h
  refine ⟨_, (pss_cons (ps_set (i := 3) scLLift.nd rfl (Or.inl rfl) (pe_ix (w_ix (K := K) rfl) (we_lst (pa_c pe_str (pa_c pe_str (pa_c pe_str pa_nil)))) (pe_fnP c_law_draw hr (by decide) rfl (pa_c (wv 0) (pa_c (wv 1) (pa_c pe_int (pa_c pe_int pa_nil))))) (fun _ _ => rfl))) (pss_cons (ps_set (i := 4) scLLift.nd rfl (Or.inl rfl) (pe_fnP c_law_draw hr (by decide) rfl (pa_c (wv 0) (pa_c (wv 1) (pa_c pe_int (pa_c (wv 2) pa_nil)))))) (pss_one (ps_ret (we_tup (pa_c (wv 4) (pa_c (pe_op (w_addY (K := K) rfl) pe_int (pe_fnP c_law_draw hr (by decide) rfl (pa_c (wv 0) (pa_c (wv 1) (pa_c pe_int (pa_c pe_int pa_nil)))))) (pa_c (pe_op (w_addY (K := K) rfl) pe_int (pe_fnP c_law_draw hr (by decide) rfl (pa_c (wv 0) (pa_c (wv 1) (pa_c pe_int (pa_c pe_int pa_nil)))))) (pa_c (wv 3) pa_nil))))))))), ?_⟩
  conv => whnf
  refine lstI (szN (by simp)) fun l1 H1 s1 n1 e1 => ?_
  have hS1 := hS.same s1
  conv => whnf
  refine drI hS1 k0 k1 (by decide) (by decide) fun i i0 i1 => ?_
  conv => whnf
  obtain ⟨sk, ek⟩ := kind_at (x := .str (Str.ofString "plain")) (y := .str (Str.ofString "hasty")) (z := .str (Str.ofString "slow")) i0 i1
  refine seqAtL (SqL.of e1) ek ?_
  conv => whnf
  refine drI hS1 k0 k1 (by decide) f0 fun i2 _ _ => ?_
  conv => whnf
  refine drI hS1 k0 k1 (by decide) (by decide) fun i3 _ _ => ?_
  conv => whnf
  refine drI hS1 k0 k1 (by decide) (by decide) fun i4 _ _ => ?_
  conv => whnf
  exact tupI (szN (by simp)) fun r H2 s2 n2 e2 => q _ H2 (s1.trans s2)
seal spLift
/-- a house: its floors, and how many lifts -/
def HsAt (K : PySem.W.Frag) (H : Hp) (a : Addr) (fl : Int) (n : Nat) : Prop := ∃ p c0 so ls, SqT K H a [.int fl, .ref p, c0, so] ∧ SqT K H p ls ∧ ls.length = n ∧ 2 ≤ fl ∧ fl ≤ 8 ∧ 1 ≤ n ∧ n ≤ 3
theorem HsAt.same {H H' : Hp} {a : Addr} {fl : Int} {n : Nat} (h : HsAt K H a fl n) (s : Same H H') : HsAt K H' a fl n := by
  obtain ⟨p, c0, so, ls, h1, h2, r⟩ := h
  exact ⟨p, c0, so, ls, s.seqT h1, s.seqT h2, r⟩
def spHouse (K : PySem.W.Frag) : Sp := fun vs H Q _ => ∃ a ns, vs = [.ref a, .int 3] ∧ ScB K H a ns ∧ ∀ r fl n H', Same H H' → HsAt K H' r fl n → Q (.ref r) H'
theorem houseI {H : Hp} {a : Addr} {ns : List Int} {Q : VK} {E : XK} (h1 : ScB K H a ns) (g : ∀ r fl n H', Same H H' → HsAt K H' r fl n → Q (.ref r) H') : spHouse K [.ref a, .int 3] H Q E := ⟨a, ns, rfl, h1, g⟩
theorem ok_house (F : Fun K "_law_house" "_law_house" sLHouse f fd) (m_tuple : mg "tuple" = none) (m_range : mg "range" = none) (c_law_draw : Cal P w K mg base 2 "_law_draw" ["_law_script", "_law_k", "_law_prime", "_law_many"] (spDr K)) (c_law_lift : Cal P w K mg base 3 "_law_lift" ["_law_script", "_law_at", "_law_floors"] (spLift K)) : FnOk P w K mg base CX0 4 f fd ["_law_script", "_law_most"] (spHouse K) := by
  refine F.ok scLHouse (fun vs H Q E h => ?_) (fun cdv A outer s H vs Q E hr h => ?_)
  · obtain ⟨a, ns, rfl, _⟩ := h
    rfl
  obtain ⟨a, ns, rfl, hS, q⟩ := h
  refine ⟨_, (pss_cons (ps_set (i := 2) scLHouse.nd rfl (Or.inr rfl) (pe_op (w_addY (K := K) rfl) pe_int (pe_fnP c_law_draw hr (by decide) rfl (pa_c (wv 0) (pa_c pe_int (pa_c pe_int (pa_c pe_int pa_nil))))))) (pss_cons (ps_set (i := 3) scLHouse.nd rfl (Or.inl rfl) (pe_op (w_addY (K := K) rfl) pe_int (pe_fnP c_law_draw hr (by decide) rfl (pa_c (wv 0) (pa_c pe_int (pa_c pe_int (pa_c (wv 1) pa_nil))))))) (pss_cons (ps_set (i := 4) scLHouse.nd rfl (Or.inl rfl) (pe_op w_mul (pe_op w_fdiv (pe_fnP c_law_draw hr (by decide) rfl (pa_c (wv 0) (pa_c pe_int (pa_c pe_int (pa_c (pe_op w_shl pe_int (wv 2)) pa_nil))))) pe_int) pe_int)) (pss_cut (ws_if (wt_cmp w_gt (pe_fnP c_law_draw hr (by decide) rfl (pa_c (wv 0) (pa_c pe_int (pa_c pe_int (pa_c pe_int pa_nil))))) pe_int (nomark _)) (pss_one (ps_set (i := 4) scLHouse.nd rfl (Or.inl rfl) pe_int)) pss_nil) (pss_cons (ps_set (i := 5) scLHouse.nd rfl (Or.inl rfl) (pe_ix (w_ix (K := K) rfl) (we_lst (pa_c pe_str (pa_c pe_str pa_nil))) (pe_fnP c_law_draw hr (by decide) rfl (pa_c (wv 0) (pa_c pe_int (pa_c pe_int (pa_c pe_int pa_nil))))) (fun _ _ => rfl))) (pss_one (ps_ret (we_tup (pa_c (wv 2) (pa_c (pe_callTyP (w_tuple (K := K) rfl) rfl m_tuple boot_tuple (pa_c (we_comp rfl (comp_scope (N' := ["_law_k", "_law_script", "_law_floors"]) (pk := [none, some 0, some 2]) (by kernel_rfl)) (wi_range1 rfl m_range (pa_c (wv 3) pa_nil)) (fun C s H ex => (pg_name (i := 0) (show List.Nodup (["_law_k", "_law_script", "_law_floors"] : List Str) by decide +kernel) rfl (Or.inl rfl))) (fun C s H ex => pts_nil) (fun C s H ex => (pe_fnP c_law_lift hr (by decide) rfl (pa_c (wv 1) (pa_c (pe_op (w_addY (K := K) rfl) pe_int (wv 0)) (pa_c (wv 2) pa_nil)))))) pa_nil)) (pa_c (wv 4) (pa_c (wv 5) pa_nil)))))))))))), ?_⟩
  conv => whnf
  refine drI hS (by decide) (by decide) (by decide) (by decide) fun i i0 i1 => ?_
  conv => whnf
  refine drI hS (by decide) (by decide) (by decide) (by decide) fun n n0 n1 => ?_
  conv => whnf
  refine ⟨cpowI (by omega) (by omega) (by decide), ?_⟩
  conv => whnf
  refine drI hS (by decide) (by decide) (by decide) (by first | exact Int.pow_pos (by decide) | exact Int.mul_pos (by decide) (Int.pow_pos (by decide)) | (show (0 : Int) < 1 * 2 ^ _; rw [Int.one_mul]; exact Int.pow_pos (by decide))) fun lk _ _ => ?_
  conv => whnf
  refine ⟨cdivI (by decide) (by decide), ?_⟩
  conv => whnf
  refine ⟨cmul_r (by decide) (by decide), ?_⟩
  conv => whnf
  refine cutI (fun σ H' => H' = H ∧ ∃ lo : Int, σ = [some (.ref a), some (.int 3), some (.int (2 + i)), some (.int (1 + n)), some (.int lo), none]) ?_ ?_
  · conv => whnf
    refine drI hS (by decide) (by decide) (by decide) (by decide) fun j _ _ => ?_
    conv => whnf
    refine ifD (fun z => ?_) (fun z => ?_)
    · exact ⟨rfl, 0, rfl⟩
    · exact ⟨rfl, _, rfl⟩
  rintro σ' H' ⟨rfl, lo, rfl⟩
  conv => whnf
  refine lstI (szN (by simp)) fun l1 H1 s1 n1 e1 => ?_
  conv => whnf
  refine drI (hS.same s1) (by decide) (by decide) (by decide) (by decide) fun j j0 j1 => ?_
  conv => whnf
  obtain ⟨so, eso⟩ : ∃ s, atI [V.str (Str.ofString "free"), .str (Str.ofString "way")] j = some s := by
    rcases (show j = 0 ∨ j = 1 by omega) with rfl | rfl
    · exact ⟨_, rfl⟩
    · exact ⟨_, rfl⟩
  refine seqAtL (SqL.of e1) eso ?_
  conv => whnf
  refine ⟨⟨by omega, by omega⟩, ?_⟩
  refine comp_range (fun i ys H' => Same H1 H' ∧ ys.length = i) (szN (by omega)) (fun i ys H' p => Nat.le_of_eq p.2) ⟨.refl _, rfl⟩ (fun i ys H' hi p => ?_) (fun ys H' p l nl => ?_)
  · obtain ⟨sm, rfl⟩ := p
    conv => whnf
    refine ⟨sup_set, ?_⟩
    conv => whnf
    have hi' : (ys.length : Int) < 3 := by omega
    refine liftI ((hS.same s1).same sm) (by omega) (by omega) (by omega) fun v H2 s2 => ⟨sm.trans s2, by simp⟩
  obtain ⟨sm, hl⟩ := p
  have s2 : Same H' (upd H' l (.lst ys)) := .upd nl
  conv => whnf
  refine tupLL' (SqL.of upd_same) fun pt H3 s3 n3 e3 => ?_
  conv => whnf
  refine tupI (szN (by simp)) fun r H4 s4 n4 e4 => ?_
  refine q r (2 + i) (1 + n).toNat H4 ((((s1.trans sm).trans s2).trans s3).trans s4) ⟨pt, _, _, ys, SqT.of e4, s4.seqT (SqT.of e3), by rw [hl], by omega, by omega, by omega, by omega⟩
seal spHouse
/-! ### deeds drawn -/
def DdAt (H : Hp) (a : Addr) (d : Dd) : Prop := H a = some (.tup d.v) ∧ d.ok
theorem DdAt.same {H H' : Hp} {a : Addr} {d : Dd} (h : DdAt H a d) (s : Same H H') : DdAt H' a d := ⟨s _ _ h.1, h.2⟩
theorem DdAt.upd {H : Hp} {a l : Addr} {d : Dd} {xs : List V} {o : HO} (h : DdAt H a d) (hl : H l = some (.lst xs)) : DdAt (L2.upd H l o) a d := ⟨by rw [upd_ne (fun z => by rw [← z, h.1] at hl; cases hl)]; exact h.1, h.2⟩
def DsAt (H : Hp) (xs : List V) (ds : List Dd) : Prop := Paired (fun x d => ∃ a, x = V.ref a ∧ DdAt H a d) xs ds
theorem DsAt.same {H H' : Hp} {xs : List V} {ds : List Dd} (h : DsAt H xs ds) (s : Same H H') : DsAt H' xs ds := Paired.imp' (fun _ _ ⟨a, e, z⟩ => ⟨a, e, z.same s⟩) h
theorem DsAt.upd {H : Hp} {l : Addr} {xs zs : List V} {ds : List Dd} {o : HO} (h : DsAt H xs ds) (hl : H l = some (.lst zs)) : DsAt (L2.upd H l o) xs ds := Paired.imp' (fun _ _ ⟨a, e, z⟩ => ⟨a, e, z.upd hl⟩) h
def spRider (K : PySem.W.Frag) : Sp := fun vs H Q _ => ∃ a ns k h fl n tg l, vs = [.ref a, .int k, .ref h, .int tg, .ref l] ∧ ScB K H a ns ∧ 0 ≤ k ∧ k < 1000 ∧ HsAt K H h fl n ∧ SqL K H l [.int (-1)] ∧ ∀ r s g H', Same H H' → 0 ≤ s → s < fl → 0 ≤ g → g < fl → s ≠ g → H' r = some (.tup [.int tg, .int s, .int g, .int (-1)]) → Q (.ref r) H'
theorem riderI {H : Hp} {a h l : Addr} {ns : List Int} {k fl tg : Int} {n : Nat} {Q : VK} {E : XK} (h1 : ScB K H a ns) (h2 : 0 ≤ k) (h3 : k < 1000) (h4 : HsAt K H h fl n) (h5 : SqL K H l [.int (-1)]) (g : ∀ r s g H', Same H H' → 0 ≤ s → s < fl → 0 ≤ g → g < fl → s ≠ g → H' r = some (.tup [.int tg, .int s, .int g, .int (-1)]) → Q (.ref r) H') : spRider K [.ref a, .int k, .ref h, .int tg, .ref l] H Q E := ⟨a, ns, k, h, fl, n, tg, l, rfl, h1, h2, h3, h4, h5, g⟩
theorem goal_ne {fl s j : Int} (f2 : 2 ≤ fl) (f8 : fl ≤ 8) (s0 : 0 ≤ s) (s1 : s < fl) (j0 : 0 ≤ j) (j1 : j < fl - 1) : 0 ≤ (s + 1 + j) % fl ∧ (s + 1 + j) % fl < fl ∧ s ≠ (s + 1 + j) % fl := by
  rcases (show fl = 2 ∨ fl = 3 ∨ fl = 4 ∨ fl = 5 ∨ fl = 6 ∨ fl = 7 ∨ fl = 8 by omega) with rfl | rfl | rfl | rfl | rfl | rfl | rfl <;> omega
theorem ok_rider (F : Fun K "_law_rider" "_law_rider" sLRider f fd) (m_len : mg "len" = none) (c_law_draw : Cal P w K mg base 2 "_law_draw" ["_law_script", "_law_k", "_law_prime", "_law_many"] (spDr K)) : FnOk P w K mg base CX0 3 f fd ["_law_script", "_law_at", "_law_house_here", "_law_tag_here", "_law_lifts"] (spRider K) := by
  refine F.ok scLRider (fun vs H Q E h => ?_) (fun cdv A outer s H vs Q E hr h => ?_)
  · obtain ⟨a, ns, k, h, fl, n, tg, l, rfl, _⟩ := h
    rfl
  obtain ⟨a, ns, k, h, fl, n, tg, l, rfl, hS, k0, k1, ⟨p, c0, so, ls, hh, hp, hl, f2, f8, n1, n3⟩, hL, q⟩ := h
  refine ⟨_, (pss_cons (ps_set (i := 5) scLRider.nd rfl (Or.inl rfl) (pe_fnP c_law_draw hr (by decide) rfl (pa_c (wv 0) (pa_c (wv 1) (pa_c pe_int (pa_c (pe_ix (w_ix (K := K) rfl) (wv 2) pe_int (fun _ _ => rfl)) pa_nil)))))) (pss_cons (ps_set (i := 6) scLRider.nd rfl (Or.inl rfl) (pe_op w_mod (pe_op (w_addY (K := K) rfl) (pe_op (w_addY (K := K) rfl) (wv 5) pe_int) (pe_fnP c_law_draw hr (by decide) rfl (pa_c (wv 0) (pa_c (wv 1) (pa_c pe_int (pa_c (pe_op w_sub (pe_ix (w_ix (K := K) rfl) (wv 2) pe_int (fun _ _ => rfl)) pe_int) pa_nil)))))) (pe_ix (w_ix (K := K) rfl) (wv 2) pe_int (fun _ _ => rfl)))) (pss_one (ps_ret (we_tup (pa_c (wv 3) (pa_c (wv 5) (pa_c (wv 6) (pa_c (pe_ix (w_ix (K := K) rfl) (wv 4) (pe_fnP c_law_draw hr (by decide) rfl (pa_c (wv 0) (pa_c (wv 1) (pa_c pe_int (pa_c (pe_callBP (w_len (K := K) rfl) rfl m_len PySem.boot_len (pa_c (wv 4) pa_nil)) pa_nil))))) (fun _ _ => rfl)) pa_nil))))))))), ?_⟩
  conv => whnf
  refine seqAtT hh (v := .int fl) rfl ?_
  conv => whnf
  refine drI hS k0 k1 (by decide) (by omega) fun s s0 s1 => ?_
  conv => whnf
  refine seqAtT hh (v := .int fl) rfl ?_
  conv => whnf
  refine drI hS k0 k1 (by decide) (by show (0 : Int) < fl - 1; omega) fun j j0 j1 => ?_
  conv => whnf
  refine seqAtT hh (v := .int fl) rfl ?_
  conv => whnf
  refine ⟨by omega, ?_⟩
  conv => whnf
  refine seqLenL hL ?_
  conv => whnf
  refine drI hS k0 k1 (by decide) (by show (0 : Int) < 1; decide) fun i i0 i1 => ?_
  have i1 : i < 1 := i1
  obtain rfl : i = 0 := by omega
  conv => whnf
  refine seqAtL hL (v := .int (-1)) rfl ?_
  conv => whnf
  have j1 : j < fl - 1 := j1
  obtain ⟨g1, g2, g3⟩ := goal_ne f2 f8 s0 s1 j0 j1
  exact tupI (szN (by show 4 ≤ 1000000; decide)) fun r H2 s2 n2 e2 => q r s _ H2 s2 s0 s1 g1 g2 g3 e2
seal spRider
def spDeed (K : PySem.W.Frag) : Sp := fun vs H Q _ => ∃ a ns k h fl n tg, vs = [.ref a, .int k, .ref h, .int tg] ∧ ScB K H a ns ∧ 0 ≤ k ∧ k < 1000 ∧ HsAt K H h fl n ∧ ∀ r d H', Same H H' → DdAt H' r d → d.fit fl n → Q (.ref r) H'
theorem deedI {H : Hp} {a h : Addr} {ns : List Int} {k fl tg : Int} {n : Nat} {Q : VK} {E : XK} (h1 : ScB K H a ns) (h2 : 0 ≤ k) (h3 : k < 1000) (h4 : HsAt K H h fl n) (g : ∀ r d H', Same H H' → DdAt H' r d → d.fit fl n → Q (.ref r) H') : spDeed K [.ref a, .int k, .ref h, .int tg] H Q E := ⟨a, ns, k, h, fl, n, tg, rfl, h1, h2, h3, h4, g⟩
theorem ok_deed (F : Fun K "_law_deed" "_law_deed" sLDeed f fd) (m_len : mg "len" = none) (c_law_draw : Cal P w K mg base 2 "_law_draw" ["_law_script", "_law_k", "_law_prime", "_law_many"] (spDr K)) (c_law_rider : Cal P w K mg base 3 "_law_rider" ["_law_script", "_law_at", "_law_house_here", "_law_tag_here", "_law_lifts"] (spRider K)) : FnOk P w K mg base CX0 4 f fd ["_law_script", "_law_at", "_law_house_here", "_law_tag_here"] (spDeed K) := by
  refine F.ok scLDeed (fun vs H Q E h => ?_) (fun cdv A outer s H vs Q E hr h => ?_)
  · obtain ⟨a, ns, k, h, fl, n, tg, rfl, _⟩ := h
    rfl
  obtain ⟨a, ns, k, h, fl, n, tg, rfl, hS, k0, k1, hH, q⟩ := h
  have hH0 := hH
  obtain ⟨p, c0, so, ls, hh, hp, hl, f2, f8, n1, n3⟩ := hH
  refine ⟨_, (pss_cons (ps_set (i := 4) scLDeed.nd rfl (Or.inl rfl) (pe_fnP c_law_draw hr (by decide) rfl (pa_c (wv 0) (pa_c (wv 1) (pa_c pe_int (pa_c pe_int pa_nil)))))) (pss_cons (ws_if (wt_cmp w_gt (wv 4) pe_int (nomark _)) (pss_one (ps_ret (we_tup (pa_c (pe_ix (w_ix (K := K) rfl) (we_lst (pa_c pe_str (pa_c pe_str pa_nil))) (pe_op w_sub (wv 4) pe_int) (fun _ _ => rfl)) pa_nil)))) pss_nil) (pss_cons (ws_if (wt_cmp w_gt (wv 4) pe_int (nomark _)) (pss_cons (ps_set (i := 5) scLDeed.nd rfl (Or.inl rfl) (pe_fnP c_law_draw hr (by decide) rfl (pa_c (wv 0) (pa_c (wv 1) (pa_c pe_int (pa_c (pe_callBP (w_len (K := K) rfl) rfl m_len PySem.boot_len (pa_c (pe_ix (w_ix (K := K) rfl) (wv 2) pe_int (fun _ _ => rfl)) pa_nil)) pa_nil)))))) (pss_one (ps_ret (we_tup (pa_c (pe_ix (w_ix (K := K) rfl) (we_lst (pa_c pe_str (pa_c pe_str (pa_c pe_str (pa_c pe_str (pa_c pe_str pa_nil)))))) (pe_op w_sub (wv 4) pe_int) (fun _ _ => rfl)) (pa_c (wv 5) pa_nil)))))) pss_nil) (pss_cons (ps_set (i := 6) scLDeed.nd rfl (Or.inl rfl) (pe_fnP c_law_rider hr (by decide) rfl (pa_c (wv 0) (pa_c (wv 1) (pa_c (wv 2) (pa_c (wv 3) (pa_c (we_lst (pa_c (pe_un w_neg pe_int) pa_nil)) pa_nil))))))) (pss_one (ps_ret (we_tup (pa_c pe_str (pa_c (pe_ix (w_ix (K := K) rfl) (wv 6) pe_int (fun _ _ => rfl)) (pa_c (pe_ix (w_ix (K := K) rfl) (wv 6) pe_int (fun _ _ => rfl)) (pa_c (pe_ix (w_ix (K := K) rfl) (wv 6) pe_int (fun _ _ => rfl)) (pa_c (pe_cmpR (w_eqA (K := K) rfl hr) (pe_fnP c_law_draw hr (by decide) rfl (pa_c (wv 0) (pa_c (wv 1) (pa_c pe_int (pa_c pe_int pa_nil))))) pe_int (nomark _)) pa_nil)))))))))))), ?_⟩
  conv => whnf
  refine drI hS k0 k1 (by decide) (by decide) fun i i0 i1 => ?_
  conv => whnf
  refine ifD (fun z => ?_) (fun z => ?_)
  · conv => whnf
    refine lstI (szN (by show 2 ≤ 1000000; decide)) fun l1 H1 s1 n1 e1 => ?_
    conv => whnf
    have z : i > 11 := z
    rcases (show i = 12 ∨ i = 13 by omega) with rfl | rfl
    · refine seqAtL (SqL.of e1) (v := .str (Str.ofString "fire")) rfl ?_
      conv => whnf
      exact tupI (szN (by show 1 ≤ 1000000; decide)) fun r H2 s2 n2 e2 => q r (.sg (Str.ofString "fire")) H2 (s1.trans s2) ⟨e2, .inl rfl⟩ (.inl rfl)
    · refine seqAtL (SqL.of e1) (v := .str (Str.ofString "calm")) rfl ?_
      conv => whnf
      exact tupI (szN (by show 1 ≤ 1000000; decide)) fun r H2 s2 n2 e2 => q r (.sg (Str.ofString "calm")) H2 (s1.trans s2) ⟨e2, .inr rfl⟩ (.inr rfl)
  conv => whnf
  have z0 : ¬ i > 11 := z
  refine ifD (fun z => ?_) (fun z => ?_)
  · have z : i > 6 := z
    conv => whnf
    refine seqAtT hh (v := .ref p) rfl ?_
    conv => whnf
    refine seqLenT hp ?_
    conv => whnf
    refine drI hS k0 k1 (by decide) (by omega) fun m m0 m1 => ?_
    have m1 : m < (ls.length : Int) := m1
    conv => whnf
    refine lstI (szN (by show 5 ≤ 1000000; decide)) fun l1 H1 s1 n1' e1 => ?_
    conv => whnf
    obtain ⟨x, ex, hx⟩ : ∃ x : Str, atI [V.str (Str.ofString "block"), .str (Str.ofString "stick"), .str (Str.ofString "free"), .str (Str.ofString "goods"), .str (Str.ofString "back")] (i - 7) = some (.str x) ∧ isLf x := by
      rcases (show i = 7 ∨ i = 8 ∨ i = 9 ∨ i = 10 ∨ i = 11 by omega) with rfl | rfl | rfl | rfl | rfl
      · exact ⟨_, rfl, .inl rfl⟩
      · exact ⟨_, rfl, .inr (.inl rfl)⟩
      · exact ⟨_, rfl, .inr (.inr (.inl rfl))⟩
      · exact ⟨_, rfl, .inr (.inr (.inr (.inl rfl)))⟩
      · exact ⟨_, rfl, .inr (.inr (.inr (.inr rfl)))⟩
    refine seqAtL (SqL.of e1) ex ?_
    conv => whnf
    exact tupI (szN (by show 2 ≤ 1000000; decide)) fun r H2 s2 n2 e2 => q r (.lf x m) H2 (s1.trans s2) ⟨e2, hx⟩ ⟨hx, m0, by omega⟩
  conv => whnf
  refine lstI (szN (by show 1 ≤ 1000000; decide)) fun l1 H1 s1 n1' e1 => ?_
  conv => whnf
  refine riderI (hS.same s1) k0 k1 (hH0.same s1) (SqL.of e1) fun r s g H2 s2 a0 a1 b0 b1 ne e2 => ?_
  conv => whnf
  refine seqAtT (SqT.of e2) (v := .int tg) rfl ?_
  conv => whnf
  refine seqAtT (SqT.of e2) (v := .int s) rfl ?_
  conv => whnf
  refine seqAtT (SqT.of e2) (v := .int g) rfl ?_
  conv => whnf
  refine drI ((hS.same s1).same s2) k0 k1 (by decide) (by decide) fun j _ _ => ?_
  conv => whnf
  exact tupI (szN (by show 5 ≤ 1000000; decide)) fun r H3 s3 n3 e3 => q r (.come tg s g _) H3 ((s1.trans s2).trans s3) ⟨e3, trivial⟩ ⟨a0, a1, b0, b1, ne⟩
seal spDeed
/-! ### what the program refuses -/
unseal initAt in
theorem initAtI {K : PySem.W.Frag} {a : Addr} {v : V} {C : Addr} {H : Hp} {R : Hp → Prop} (h1 : H a = some (excN a (.ref C) none)) (h2 : excJ K C VEs "ValueError.__new__" = true) (g : R H) : initAt K [.ref a, v] H R := ⟨a, v, C, rfl, h1, h2, g⟩
unseal xputAt in
theorem xputI {K : PySem.W.Frag} {fl : Str} {a C : Addr} {y : V} {H : Hp} {R : Hp → Prop} (h1 : H a = some (excN a (.ref C) none)) (h2 : excJ K C VEs "ValueError.__new__" = true) (h3 : PySem.W.findIn K (.ref C) "__setattr__" = some (some (.builtin "object.__setattr__"))) (h4 : PySem.W.findIn K (.ref C) fl = some none) (h5 : PySem.W.mroIn K C (.type "object") = some true)
    (g : ∀ d, H d = none → d ≠ a → R (upd (upd H a (excN a (.ref C) (some d))) d (.xd [(fl, y)]))) : xputAt K fl a y H R := ⟨C, h1, h2, h3, h4, h5, g⟩
theorem ok_xFloor {kNoFloor kCourtError : Addr} (F : Fun K "__init__" "NoFloor.__init__" sNofloorInit f fd) (b_CourtError : BaseI K kCourtError) (g_CourtError : mg "CourtError" = some (.ref kCourtError)) (j_NoFloor : excJ K kNoFloor VEs "ValueError.__new__" = true) (sa_NoFloor : PySem.W.findIn K (.ref kNoFloor) "__setattr__" = some (some (.builtin "object.__setattr__"))) (A_NoFloor_floor : PySem.W.findIn K (.ref kNoFloor) "floor" = some none) (mO_NoFloor : PySem.W.mroIn K kNoFloor (.type "object") = some true) : FnOk P w K mg base CX0 1 f fd ["self", "floor"] (spXI kNoFloor "floor") := by
  refine F.ok scNofloorInit (fun vs H Q E h => ?_) (fun cdv A outer s H vs Q E hr h => ?_)
  · obtain ⟨a, v, rfl, _⟩ := h
    rfl
  obtain ⟨a, v, rfl, ea, q⟩ := h
  refine ⟨_, (pss_cons (ps_expr (pe_binit (K := K) rfl b_CourtError rfl g_CourtError (pa_c (wv 0) (pa_c pe_str pa_nil)))) (pss_one (ps_xput (K := K) rfl (wv 0) (wv 1)))), ?_⟩
  conv => whnf
  refine initAtI ea j_NoFloor ?_
  conv => whnf
  exact xputI ea j_NoFloor sa_NoFloor A_NoFloor_floor mO_NoFloor fun d nd ne => q d nd ne
theorem ok_xLift {kNoLift kCourtError : Addr} (F : Fun K "__init__" "NoLift.__init__" sNoliftInit f fd) (b_CourtError : BaseI K kCourtError) (g_CourtError : mg "CourtError" = some (.ref kCourtError)) (j_NoLift : excJ K kNoLift VEs "ValueError.__new__" = true) (sa_NoLift : PySem.W.findIn K (.ref kNoLift) "__setattr__" = some (some (.builtin "object.__setattr__"))) (A_NoLift_lift : PySem.W.findIn K (.ref kNoLift) "lift" = some none) (mO_NoLift : PySem.W.mroIn K kNoLift (.type "object") = some true) : FnOk P w K mg base CX0 1 f fd ["self", "lift"] (spXI kNoLift "lift") := by
  refine F.ok scNoliftInit (fun vs H Q E h => ?_) (fun cdv A outer s H vs Q E hr h => ?_)
  · obtain ⟨a, v, rfl, _⟩ := h
    rfl
  obtain ⟨a, v, rfl, ea, q⟩ := h
  refine ⟨_, (pss_cons (ps_expr (pe_binit (K := K) rfl b_CourtError rfl g_CourtError (pa_c (wv 0) (pa_c pe_str pa_nil)))) (pss_one (ps_xput (K := K) rfl (wv 0) (wv 1)))), ?_⟩
  conv => whnf
  refine initAtI ea j_NoLift ?_
  conv => whnf
  exact xputI ea j_NoLift sa_NoLift A_NoLift_lift mO_NoLift fun d nd ne => q d nd ne
def spNFloor (K : PySem.W.Frag) (C : Addr) : Sp := fun vs H Q E => ∃ h fl n i, vs = [.ref h, .int i] ∧ HsAt K H h fl n ∧ (¬ (i < 0 ∨ fl ≤ i) → Q .non H) ∧ ((i < 0 ∨ fl ≤ i) → ∀ d H', Same H H' → H' d = some (.xd [(tFloor, .int i)]) → E (.ref C) (some d) H')
theorem nfloorI {C : Addr} {H : Hp} {h : Addr} {fl : Int} {n : Nat} {i : Int} {Q : VK} {E : XK} (h1 : HsAt K H h fl n) (g : ¬ (i < 0 ∨ fl ≤ i) → Q .non H) (b : (i < 0 ∨ fl ≤ i) → ∀ d H', Same H H' → H' d = some (.xd [(tFloor, .int i)]) → E (.ref C) (some d) H') : spNFloor K C [.ref h, .int i] H Q E := ⟨h, fl, n, i, rfl, h1, g, b⟩
theorem ok_nFloor {kNoFloor : Addr} (F : Fun K "need_floor" "need_floor" sNeedFloor f fd) (y_NoFloor : XMk P w K mg base 1 "NoFloor" kNoFloor "floor") : FnOk P w K mg base (CXE P w) 3 f fd ["house", "floor"] (spNFloor K kNoFloor) := by
  refine F.okX scNeedFloor (fun vs H Q E h => ?_) (fun cdv A outer s H vs Q E hr h => ?_)
  · obtain ⟨h, fl, n, i, rfl, _⟩ := h
    rfl
  obtain ⟨h, fl, n, i, rfl, ⟨p, c0, so, ls, hh, hp, hl, f2, f8, n1, n3⟩, q, qb⟩ := h
  refine ⟨_, (pss_one (ws_if (pt_not (wt_chain w_le w_lt pe_int (wv 1) (pe_ix (w_ix (K := K) rfl) (wv 0) pe_int (fun _ _ => rfl)))) (pss_one (ps_raiseI fl_body rfl y_NoFloor hr (by decide) rfl (pa_c (wv 1) pa_nil))) pss_nil)), ?_⟩
  by_cases z1 : i < 0
  · walk_at "l3go"
    exact ⟨_, rfl, fun d nd => qb (.inl z1) d _ (.upd nd) upd_same⟩
  by_cases z2 : fl ≤ i
  · walk_at "l3go"
    exact ⟨_, rfl, fun d nd => qb (.inr z2) d _ (.upd nd) upd_same⟩
  · walk_at "l3go"
    exact q fun z => z.elim z1 z2
seal spNFloor
def spNLift (K : PySem.W.Frag) (C : Addr) : Sp := fun vs H Q E => ∃ h fl n i, vs = [.ref h, .int i] ∧ HsAt K H h fl n ∧ (¬ (i < 0 ∨ (n : Int) ≤ i) → Q .non H) ∧ ((i < 0 ∨ (n : Int) ≤ i) → ∀ d H', Same H H' → H' d = some (.xd [(tLift, .int i)]) → E (.ref C) (some d) H')
theorem nliftI {C : Addr} {H : Hp} {h : Addr} {fl : Int} {n : Nat} {i : Int} {Q : VK} {E : XK} (h1 : HsAt K H h fl n) (g : ¬ (i < 0 ∨ (n : Int) ≤ i) → Q .non H) (b : (i < 0 ∨ (n : Int) ≤ i) → ∀ d H', Same H H' → H' d = some (.xd [(tLift, .int i)]) → E (.ref C) (some d) H') : spNLift K C [.ref h, .int i] H Q E := ⟨h, fl, n, i, rfl, h1, g, b⟩
theorem ok_nLift {kNoLift : Addr} (F : Fun K "need_lift" "need_lift" sNeedLift f fd) (m_len : mg "len" = none) (y_NoLift : XMk P w K mg base 1 "NoLift" kNoLift "lift") : FnOk P w K mg base (CXE P w) 3 f fd ["house", "lift"] (spNLift K kNoLift) := by
  refine F.okX scNeedLift (fun vs H Q E h => ?_) (fun cdv A outer s H vs Q E hr h => ?_)
  · obtain ⟨h, fl, n, i, rfl, _⟩ := h
    rfl
  obtain ⟨h, fl, n, i, rfl, ⟨p, c0, so, ls, hh, hp, hl, f2, f8, n1, n3⟩, q, qb⟩ := h
  have hpl : (ls.length : Int) = n := by rw [hl]
  refine ⟨_, (pss_one (ws_if (pt_not (wt_chain w_le w_lt pe_int (wv 1) (pe_callBP (w_len (K := K) rfl) rfl m_len PySem.boot_len (pa_c (pe_ix (w_ix (K := K) rfl) (wv 0) pe_int (fun _ _ => rfl)) pa_nil)))) (pss_one (ps_raiseI fl_body rfl y_NoLift hr (by decide) rfl (pa_c (wv 1) pa_nil))) pss_nil)), ?_⟩
  by_cases z1 : i < 0
  · walk_at "l3go"
    exact ⟨_, rfl, fun d nd => qb (.inl z1) d _ (.upd nd) upd_same⟩
  by_cases z2 : (n : Int) ≤ i
  · walk_at "l3go"
    exact ⟨_, rfl, fun d nd => qb (.inr z2) d _ (.upd nd) upd_same⟩
  · walk_at "l3go"
    exact q fun z => z.elim z1 z2
seal spNLift
/-- what is told of a deed -/
def Tells (kF kL kR kD : Addr) (H : Hp) (Q : VK) (E : XK) : Du → Prop
  | .good => ∀ H', Same H H' → Q .non H'
  | .floor i => ∀ d H', Same H H' → H' d = some (.xd [(tFloor, .int i)]) → E (.ref kF) (some d) H'
  | .lift i => ∀ d H', Same H H' → H' d = some (.xd [(tLift, .int i)]) → E (.ref kL) (some d) H'
  | .ride => ∀ H', Same H H' → E (.ref kR) none H'
  | .deed => ∀ H', Same H H' → E (.ref kD) none H'
def spNRide (K : PySem.W.Frag) (kF kL kR kD : Addr) : Sp := fun vs H Q E => ∃ h fl n st go, vs = [.ref h, .int st, .int go] ∧ HsAt K H h fl n ∧ Tells kF kL kR kD H Q E (due fl n (.come 0 st go false))
theorem nrideI {kF kL kR kD : Addr} {H : Hp} {h : Addr} {fl : Int} {n : Nat} {st go : Int} {Q : VK} {E : XK} (h1 : HsAt K H h fl n) (g : Tells kF kL kR kD H Q E (due fl n (.come 0 st go false))) : spNRide K kF kL kR kD [.ref h, .int st, .int go] H Q E := ⟨h, fl, n, st, go, rfl, h1, g⟩
theorem ok_nRide {kNoFloor kNoLift kNoRide kNoDeed : Addr} (F : Fun K "need_ride" "need_ride" sNeedRide f fd) (x_need_floor : CalX P w K mg base 3 "need_floor" ["house", "floor"] (spNFloor K kNoFloor)) (g_NoRide : mg "NoRide" = some (.ref kNoRide)) (i_NoRide : PySem.W.excIn K kNoRide [.type "ValueError", .type "Exception", .type "BaseException", .type "object"] "ValueError.__new__" = true) : FnOk P w K mg base (CXE P w) 4 f fd ["house", "start", "goal"] (spNRide K kNoFloor kNoLift kNoRide kNoDeed) := by
  refine F.okX scNeedRide (fun vs H Q E h => ?_) (fun cdv A outer s H vs Q E hr h => ?_)
  · obtain ⟨h, fl, n, st, gl, rfl, _⟩ := h
    rfl
  obtain ⟨h, fl, n, st, gl, rfl, hh, T⟩ := h
  refine ⟨_, (pss_cons (ps_expr (pe_fnX fl_body x_need_floor hr (by decide) rfl (pa_c (wv 0) (pa_c (wv 1) pa_nil)))) (pss_cons (ps_expr (pe_fnX fl_body x_need_floor hr (by decide) rfl (pa_c (wv 0) (pa_c (wv 2) pa_nil)))) (pss_one (ws_if (wt_cmp (w_eqA (K := K) rfl hr) (wv 1) (wv 2) (nomark _)) (pss_one (ps_raise fl_body rfl i_NoRide PySem.F.excBase_ValueError rfl g_NoRide (pa_c pe_str pa_nil))) pss_nil)))), ?_⟩
  conv => whnf
  refine nfloorI hh (fun z1 => ?_) (fun z1 d H' sm ed => ?_)
  · conv => whnf
    refine nfloorI hh (fun z2 => ?_) (fun z2 d H' sm ed => ?_)
    · by_cases z3 : st = gl
      · have e : due fl n (.come 0 st gl false) = .ride := (if_neg z1).trans ((if_neg z2).trans (if_pos z3))
        rw [e] at T
        walk_at "l3go"
        exact ⟨szN (by show 1 ≤ 1000000; decide), T _ (.refl _)⟩
      · have e : due fl n (.come 0 st gl false) = .good := (if_neg z1).trans ((if_neg z2).trans (if_neg z3))
        rw [e] at T
        walk_at "l3go"
        exact T _ (.refl _)
    · have e : due fl n (.come 0 st gl false) = .floor gl := (if_neg z1).trans (if_pos z2)
      rw [e] at T
      exact T d H' sm ed
  · have e : due fl n (.come 0 st gl false) = .floor st := if_pos z1
    rw [e] at T
    exact T d H' sm ed
seal spNRide
def spNeed (K : PySem.W.Frag) (kF kL kR kD : Addr) : Sp := fun vs H Q E => ∃ h fl n a d, vs = [.ref h, .ref a] ∧ HsAt K H h fl n ∧ DdAt H a d ∧ Tells kF kL kR kD H Q E (due fl n d)
theorem needI {kF kL kR kD : Addr} {H : Hp} {h a : Addr} {fl : Int} {n : Nat} {d : Dd} {Q : VK} {E : XK} (h1 : HsAt K H h fl n) (h2 : DdAt H a d) (g : Tells kF kL kR kD H Q E (due fl n d)) : spNeed K kF kL kR kD [.ref h, .ref a] H Q E := ⟨h, fl, n, a, d, rfl, h1, h2, g⟩
theorem Tells.imp {kF kL kR kD : Addr} {H : Hp} {Q Q' : VK} {E : XK} {u : Du} (h : Tells kF kL kR kD H Q E u) (g : ∀ H', Q .non H' → Q' .non H') : Tells kF kL kR kD H Q' E u := by
  cases u with
  | good => exact fun H' sm => g H' (h H' sm)
  | floor i => exact h
  | lift i => exact h
  | ride => exact h
  | deed => exact h
theorem ok_need {kNoFloor kNoLift kNoRide kNoDeed : Addr} (F : Fun K "need_deed" "need_deed" sNeedDeed f fd) (x_need_ride : CalX P w K mg base 4 "need_ride" ["house", "start", "goal"] (spNRide K kNoFloor kNoLift kNoRide kNoDeed)) (x_need_lift : CalX P w K mg base 3 "need_lift" ["house", "lift"] (spNLift K kNoLift)) : FnOk P w K mg base (CXE P w) 5 f fd ["house", "deed"] (spNeed K kNoFloor kNoLift kNoRide kNoDeed) := by
  refine F.okX scNeedDeed (fun vs H Q E h => ?_) (fun cdv A outer s H vs Q E hr h => ?_)
  · obtain ⟨h, fl, n, a, d, rfl, _⟩ := h
    rfl
  obtain ⟨h, fl, n, a, d, rfl, hh, ⟨ea, ok⟩, T⟩ := h
  have hT := SqT.of (K := K) ea
  refine ⟨_, (pss_one (ws_if (wt_cmp (w_eqA (K := K) rfl hr) (pe_ix (w_ix (K := K) rfl) (wv 1) pe_int (fun _ _ => rfl)) pe_str (nomark _)) (pss_one (ps_expr (pe_fnX fl_body x_need_ride hr (by decide) rfl (pa_c (wv 0) (pa_c (pe_ix (w_ix (K := K) rfl) (wv 1) pe_int (fun _ _ => rfl)) (pa_c (pe_ix (w_ix (K := K) rfl) (wv 1) pe_int (fun _ _ => rfl)) pa_nil)))))) (pss_one (ws_if (wt_cmp (w_notin (K := K) rfl) (pe_ix (w_ix (K := K) rfl) (wv 1) pe_int (fun _ _ => rfl)) (we_tup (pa_c pe_str (pa_c pe_str pa_nil))) (by with_unfolding_all rfl)) (pss_one (ps_expr (pe_fnX fl_body x_need_lift hr (by decide) rfl (pa_c (wv 0) (pa_c (pe_ix (w_ix (K := K) rfl) (wv 1) pe_int (fun _ _ => rfl)) pa_nil))))) pss_nil)))), ?_⟩
  cases d with
  | come t s g k =>
    have hT : SqT K H a [.str tCome, .int t, .int s, .int g, .bl k] := hT
    conv => whnf
    refine seqAtT hT (v := .str tCome) rfl ?_
    conv => whnf
    refine ifB_t rfl ?_
    walk_at "l3go"
    exact nrideI hh (Tells.imp T fun H' z => z)
  | lf x i =>
    have hx : x ≠ tCome := by rcases ok with rfl | rfl | rfl | rfl | rfl <;> decide
    have hT : SqT K H a [.str x, .int i] := hT
    conv => whnf
    refine seqAtT hT (v := .str x) rfl ?_
    conv => whnf
    refine ifB_f (decide_eq_false hx) ?_
    conv => whnf
    refine seqAtT hT (v := .str x) rfl ?_
    conv => whnf
    refine tupI (szN (by show 2 ≤ 1000000; decide)) fun l1 H1 s1 n1 e1 => ?_
    conv => whnf
    have hin : inV (.str x) [.str (Str.ofString "fire"), .str (Str.ofString "calm")] = false := by rcases ok with rfl | rfl | rfl | rfl | rfl <;> rfl
    refine seqNotInT (SqT.of e1) rfl rfl ?_
    rw [hin]
    conv => whnf
    refine ifB_t rfl ?_
    conv => whnf
    refine seqAtT (s1.seqT hT) (v := .int i) rfl ?_
    conv => whnf
    refine nliftI (hh.same s1) (fun z => ?_) (fun z d H' sm ed => ?_)
    · have e : due fl n (.lf x i) = .good := if_neg z
      rw [e] at T
      exact T _ s1
    · have e : due fl n (.lf x i) = .lift i := if_pos z
      rw [e] at T
      exact T d H' (s1.trans sm) ed
  | sg x =>
    have hx : x ≠ tCome := by rcases ok with rfl | rfl <;> decide
    have hT : SqT K H a [.str x] := hT
    conv => whnf
    refine seqAtT hT (v := .str x) rfl ?_
    conv => whnf
    refine ifB_f (decide_eq_false hx) ?_
    conv => whnf
    refine seqAtT hT (v := .str x) rfl ?_
    conv => whnf
    refine tupI (szN (by show 2 ≤ 1000000; decide)) fun l1 H1 s1 n1 e1 => ?_
    conv => whnf
    have hin : inV (.str x) [.str (Str.ofString "fire"), .str (Str.ofString "calm")] = true := by rcases ok with rfl | rfl <;> rfl
    refine seqNotInT (SqT.of e1) rfl rfl ?_
    rw [hin]
    conv => whnf
    refine ifB_f rfl ?_
    exact T _ s1
seal spNeed
theorem figs_codes : (Str.ofString "0123456789").cps.toList = figC := by decide +kernel
theorem mem_fig (c : Nat) : c ∈ figC ↔ 48 ≤ c ∧ c ≤ 57 := by
  unfold figC
  simp only [List.mem_cons, List.not_mem_nil, or_false]
  omega
unseal strIn findV in
theorem strIn_fig (c : Nat) : strIn ⟨#[c]⟩ (Str.ofString "0123456789") = decide (c ∈ figC) := by
  unfold strIn
  rw [PySem.StrLaws.found_one, figs_codes]
def optV : Option Int → V
  | none => .non
  | some n => .int n
theorem one0 (c : Nat) : ((⟨#[c]⟩ : Str) = Str.ofString "0") ↔ c = 48 := by
  constructor
  · intro e
    have e3 : [c] = [48] := (congrArg (fun s : Str => s.cps.toList) e).trans (by decide +kernel)
    exact (List.cons.inj e3).1
  · rintro rfl
    decide +kernel
def spWn : Sp := fun vs H Q _ => ∃ x : Str, vs = [.str x] ∧ x.length ≤ 5000 ∧ ∀ H', Same H H' → Q (.bl (wnum x)) H'
theorem wnI {H : Hp} {x : Str} {Q : VK} {E : XK} (h : x.length ≤ 5000) (g : ∀ H', Same H H' → Q (.bl (wnum x)) H') : spWn [.str x] H Q E := ⟨x, rfl, h, g⟩
theorem ok_wn (F : Fun K "writes_number" "writes_number" sWritesNumber f fd) (m_len : mg "len" = none) (m_all : mg "all" = none) {t1 t2 : Tok} (g_MOST_FIGURES : mg "MOST_FIGURES" = some (.int 9 t1)) (g_FIGURES : mg "FIGURES" = some (.str (Str.ofString "0123456789") t2)) :
    FnOk P w K mg base CX0 1 f fd ["text"] spWn := by
  have r_MOST_FIGURES : RelV (.int 9) (.int 9 t1) := ⟨_, rfl⟩
  have r_FIGURES : RelV (.str (Str.ofString "0123456789")) (.str (Str.ofString "0123456789") t2) := ⟨_, rfl⟩
  refine F.ok scWritesNumber (fun vs H Q E h => ?_) (fun cdv A outer s H vs Q E hr h => ?_)
  · obtain ⟨x, rfl, _⟩ := h
    rfl
  obtain ⟨x, rfl, hx, q⟩ := h
  have hz : x.length ≤ sizeLine := szN (by omega)
  have hcl := len_codes x
  unfold wnum at q
  refine ⟨_, (pss_cons (ws_if (PW.pt (ww_or (wt_cmp (w_eqA (K := K) rfl hr) (pe_callBP (w_len (K := K) rfl) rfl m_len PySem.boot_len (pa_c (wv 0) pa_nil)) pe_int (nomark _)) (pw_or1 (wt_cmp w_gt (pe_callBP (w_len (K := K) rfl) rfl m_len PySem.boot_len (pa_c (wv 0) pa_nil)) (pe_glob rfl g_MOST_FIGURES r_MOST_FIGURES) (nomark _))))) (pss_one (ps_ret pe_bl)) pss_nil) (pss_cons (ws_if (PW.pt (ww_and (wt_cmp (w_eqA (K := K) rfl hr) (pe_ix (w_ix (K := K) rfl) (wv 0) pe_int (fun _ _ => rfl)) pe_str (nomark _)) (pw_and1 (wt_cmp (w_neA (K := K) rfl hr) (wv 0) pe_str (nomark _))))) (pss_one (ps_ret pe_bl)) pss_nil) (pss_one (ps_ret (pe_callBP (w_all (K := K) rfl rfl) rfl m_all boot_all (pa_c (we_comp rfl (comp_scope (N' := ["sign"]) (pk := [none]) (by kernel_rfl)) (wi_seq (K := K) rfl (wv 0)) (fun C s H ex => (pg_name (i := 0) (show List.Nodup (["sign"] : List Str) by decide +kernel) rfl (Or.inl rfl))) (fun C s H ex => pts_nil) (fun C s H ex => (pe_cmpR (w_in (K := K) rfl) (wv 0) (pe_glob rfl g_FIGURES r_FIGURES) (by with_unfolding_all rfl)))) pa_nil)))))), ?_⟩
  refine ⟨hz, ifD (fun h0 => ?_) (fun h0 => ?_)⟩
  · rw [if_pos (.inl (by omega))] at q
    exact ifB_t rfl (q H (.refl _))
  refine ⟨hz, ifD (fun h9 => ?_) (fun h9 => ?_)⟩
  · rw [if_pos (.inr (by omega))] at q
    exact q H (.refl _)
  rw [if_neg (by omega)] at q
  obtain ⟨c, hc⟩ : ∃ c, x.cps.toList[0]? = some c := ⟨x.cps.toList[0], by simp [List.getElem?_eq_getElem (show 0 < x.cps.toList.length by omega)]⟩
  rw [hc] at q
  refine signAtI hz (atI_nat (j := 0) hc) ?_
  have rest : (∀ H', Same H H' → Q (.bl (x.cps.toList.all fun c => decide (c ∈ figC))) H') → ∀ H0 : Hp, Same H H0 → cmpW (Its x) [none] (gName 0) tYes (tOp (wIn K false) (wVar 0) (tC (V.str (Str.ofString "0123456789")))) [some (V.str x)] H0 fun v H1 => tNil [some (V.str x)] H1 fun xs H2 => wAll K (v :: xs) H2 Q := by
    intro hq H0 sm0
    refine comp_str (fun i ys HX => Same H HX ∧ ys = (x.cps.toList.take i).map fun c => V.bl (decide (c ∈ figC))) (by show x.length ≤ sizeLine; exact hz) (fun i ys H p => by rw [p.2, List.length_map, List.length_take]; omega) ⟨sm0, rfl⟩ ?_ ?_
    · intro i c ys H hc p
      refine ⟨sup1, ?_⟩
      have hc' : x.cps.toList[i]? = some c := by rw [Array.getElem?_toList]; exact hc
      refine ⟨p.1, ?_⟩
      show ys ++ [V.bl (strIn ⟨#[c]⟩ (Str.ofString "0123456789"))] = _
      rw [strIn_fig, p.2, List.take_add_one, hc', List.map_append]
      rfl
    · intro ys H p q hq'
      refine allLI (bs := x.cps.toList.map fun c => decide (c ∈ figC)) ?_ ?_
      · refine SqL.of ?_
        rw [upd_same, p.2]
        have e : x.cps.toList.take x.cps.size = x.cps.toList := List.take_of_length_le (by simp)
        rw [e, List.map_map]
        rfl
      · rw [List.all_map]
        exact hq _ (p.1.trans (.upd hq'))
  by_cases hc48 : c = 48
  · refine ifDt ((one0 c).mpr hc48) (ifB_by (fun hn => ?_) (fun hn => ?_))
    · have hx0 : x ≠ Str.ofString "0" := by simpa using hn
      rw [if_pos ⟨by rw [hc48], hx0⟩] at q
      exact q H (.refl _)
    · have hx0 : x = Str.ofString "0" := by simpa using hn
      rw [if_neg (by intro z; exact z.2 hx0)] at q
      exact rest q H (.refl _)
  · refine ifDf (fun z => hc48 ((one0 c).mp z)) (ifB_f rfl ?_)
    rw [if_neg (by intro z; exact hc48 (Option.some.inj z.1))] at q
    exact rest q H (.refl _)
seal spWn
/-! ### number_of, and what is due -/
theorem wnum_digits {x : Str} (h : wnum x = true) : PySem.NumText.AllDigits x.cps.toList ∧ x.cps.toList ≠ [] ∧ x.length ≤ 9 := by
  have hcl := len_codes x
  unfold wnum at h
  by_cases h0 : x.length = 0 ∨ 9 < x.length
  · rw [if_pos h0] at h; cases h
  rw [if_neg h0] at h
  by_cases h1 : x.cps.toList[0]? = some 48 ∧ x ≠ Str.ofString "0"
  · rw [if_pos h1] at h; cases h
  rw [if_neg h1] at h
  refine ⟨fun c hc => (mem_fig c).mp (of_decide_eq_true (List.all_eq_true.mp h c hc)), fun z => ?_, by omega⟩
  rw [z] at hcl
  simp at hcl
  omega
def spNum : Sp := fun vs H Q _ => ∃ x : Str, vs = [.str x] ∧ x.length ≤ 5000 ∧ ∀ H', Same H H' → Q (optV (numOf x)) H'
theorem numI {H : Hp} {x : Str} {Q : VK} {E : XK} (h : x.length ≤ 5000) (g : ∀ H', Same H H' → Q (optV (numOf x)) H') : spNum [.str x] H Q E := ⟨x, rfl, h, g⟩
theorem ok_num (F : Fun K "number_of" "number_of" sNumberOf f fd) (m_int : mg "int" = none) (c_writes_number : Cal P w K mg base 1 "writes_number" ["text"] spWn) : FnOk P w K mg base CX0 2 f fd ["text"] spNum := by
  refine F.ok scNumberOf (fun vs H Q E h => ?_) (fun cdv A outer s H vs Q E hr h => ?_)
  · obtain ⟨x, rfl, _⟩ := h
    rfl
  obtain ⟨x, rfl, hx, q⟩ := h
  refine ⟨_, (pss_one (ps_ret (we_if (wt_tr (K := K) rfl (pe_fnP c_writes_number hr (by decide) rfl (pa_c (wv 0) pa_nil))) (pe_callTyP w_int rfl m_int boot_int (pa_c (wv 0) pa_nil)) pe_non))), ?_⟩
  conv => whnf
  refine wnI hx fun H' sm => ?_
  have z := q H' sm
  unfold numOf natOf at z
  refine ifB_by (fun hw => ?_) (fun hw => ?_)
  · rw [if_pos hw] at z
    have h9 := (wnum_digits hw).2.2
    exact intOfI (PySem.intText_digits (wnum_digits hw).1 (wnum_digits hw).2.1 (by omega)) (by omega) z
  · rw [if_neg (by rw [hw]; decide)] at z
    exact z
seal spNum
def spRNum (c : Addr) : Sp := fun vs H Q E => ∃ x : Str, vs = [.str x] ∧ TX x ∧ (∀ n, numOf x = some n → ∀ H', Same H H' → Q (.int n) H') ∧ (numOf x = none → ∀ H', Same H H' → E (.ref c) none H')
theorem rnumI {c : Addr} {H : Hp} {x : Str} {Q : VK} {E : XK} (h : TX x) (g : ∀ n, numOf x = some n → ∀ H', Same H H' → Q (.int n) H') (b : numOf x = none → ∀ H', Same H H' → E (.ref c) none H') : spRNum c [.str x] H Q E := ⟨x, rfl, h, g, b⟩
theorem fs_sz {x c : Str} (h : TX x) (hc : c.length ≤ 100) : (reprText x).length ≤ sizeLine ∧ (Str.empty ++ reprText x).length ≤ sizeLine ∧ (Str.empty ++ reprText x ++ c).length ≤ sizeLine := by
  have hr := repr_len h.2
  have hl := h.1
  refine ⟨szN (by omega), szN ?_, szN ?_⟩
  · rw [strLen_append]; show 0 + (reprText x).length ≤ 1000000; omega
  · rw [strLen_append, strLen_append, show Str.empty.length = 0 from rfl]; omega
theorem ok_rnum {kNoDeed : Addr} (F : Fun K "read_number" "read_number" sReadNumber f fd) (g_NoDeed : mg "NoDeed" = some (.ref kNoDeed)) (i_NoDeed : PySem.W.excIn K kNoDeed [.type "ValueError", .type "Exception", .type "BaseException", .type "object"] "ValueError.__new__" = true) (c_number_of : Cal P w K mg base 2 "number_of" ["text"] spNum) : FnOk P w K mg base (CXE P w) 3 f fd ["word"] (spRNum kNoDeed) := by
  refine F.okX scReadNumber (fun vs H Q E h => ?_) (fun cdv A outer s H vs Q E hr h => ?_)
  · obtain ⟨x, rfl, _⟩ := h
    rfl
  obtain ⟨x, rfl, hx, q, qb⟩ := h
  refine ⟨_, (pss_cons (ps_set (i := 1) scReadNumber.nd rfl (Or.inl rfl) (pe_fnP c_number_of hr (by decide) rfl (pa_c (wv 0) pa_nil))) (pss_cons (ws_if (wt_cmp w_isN (wv 1) pe_non (nomark _)) (pss_one (ps_raise fl_body rfl i_NoDeed PySem.F.excBase_ValueError rfl g_NoDeed (pa_c (we_joined (pj_rep (wv 0) (pj_str pj_nil))) pa_nil))) pss_nil) (pss_one (ps_ret (wv 1))))), ?_⟩
  conv => whnf
  have hx6 : x.length ≤ 5000 := hx.1
  refine numI hx6 fun H1 s1 => ?_
  cases hn : numOf x with
  | none =>
    conv => whnf
    refine ifB_t rfl ?_
    conv => whnf
    obtain ⟨z1, z2, z3⟩ := fs_sz hx (c := Str.ofString " is no number") (by decide)
    exact ⟨z1, z2, z3, z3, szN (by show 1 ≤ 1000000; decide), qb hn H1 s1⟩
  | some n =>
    conv => whnf
    refine ifB_f rfl ?_
    exact q n hn H1 s1
seal spRNum
theorem cut_from {xs : List V} {n : Nat} (h : n ≤ xs.length) : cutV xs (some (n : Int)) none = xs.drop n := by
  unfold cutV
  have h1 : HT.sIx xs.length 0 (some (n : Int)) = n := by
    rw [HT.sIx_nat]
    omega
  have h2 : HT.sIx xs.length xs.length none = xs.length := rfl
  rw [h1, h2]
  exact List.take_of_length_le (by simp)
/-! ### parts read -/
theorem split_len1 {s y : Str} : 1 ≤ (Txt.split s y).length := PyProof.Rows.split_pos s y
theorem split_len2 {s y : Str} (h : TX s) : (Txt.split s y).length ≤ 5002 := by have := PyProof.Rows.split_le s y; have := h.1; omega
theorem inD_strs (a : Str) : ∀ xs : List Str, ((xs.map D.str).any fun d => eqD d (.str a)) = decide (a ∈ xs)
  | [] => by simp
  | x :: xs => by
    rw [List.map_cons, List.any_cons, inD_strs a xs, eqD]
    by_cases h : a = x
    · subst h; simp
    · have : (x == a) = false := by simpa using fun z => h z.symm
      rw [this]; simp [h]
theorem keyIn (us : List Str) : ([D.lst [], D.lst [.str tKey]].any fun d => eqD d (.lst (us.map D.str))) = decide (us = [] ∨ us = [tKey]) := by
  match us with
  | [] => simp [eqD, eqDs]
  | [u] =>
    simp only [List.any_cons, List.any_nil, List.map_cons, List.map_nil, eqD, eqDs, Bool.and_true, Bool.or_false, Bool.false_or]
    by_cases h : u = tKey
    · subst h; simp
    · have : (tKey == u) = false := by simpa using fun z => h z.symm
      rw [this]; simp [h]
  | u :: v :: r => simp [eqD, eqDs]
theorem den_strs {H : Hp} : ∀ us : List Str, Dens K H (us.map V.str) (us.map D.str)
  | [] => .nil
  | u :: us => .cons (.str _) (den_strs us)
def spRDeed (c : Addr) : Sp := fun vs H Q E => ∃ (p : Str) (tg : Int), vs = [.str p, .int tg] ∧ TX p ∧ (∀ d, rdD p tg = some d → ∀ r H', Same H H' → DdAt H' r d → Q (.ref r) H') ∧ (rdD p tg = none → ∀ H', Same H H' → E (.ref c) none H')
theorem rdeedI {c : Addr} {H : Hp} {p : Str} {tg : Int} {Q : VK} {E : XK} (h : TX p) (g : ∀ d, rdD p tg = some d → ∀ r H', Same H H' → DdAt H' r d → Q (.ref r) H') (b : rdD p tg = none → ∀ H', Same H H' → E (.ref c) none H') : spRDeed c [.str p, .int tg] H Q E := ⟨p, tg, rfl, h, g, b⟩
theorem cut3 (us : List Str) (h : 3 ≤ us.length) : cutV (us.map V.str) (some 3) none = (us.drop 3).map V.str := by
  have := cut_from (xs := us.map V.str) (n := 3) (by rw [List.length_map]; exact h)
  rw [show (some ((3 : Nat) : Int)) = some 3 from rfl] at this
  rw [this, List.map_drop]
theorem ok_rdeed {kNoDeed kLF kAL : Addr} (F : Fun K "read_deed" "read_deed" sReadDeed f fd) (m_len : mg "len" = none) (g_NoDeed : mg "NoDeed" = some (.ref kNoDeed)) (i_NoDeed : PySem.W.excIn K kNoDeed [.type "ValueError", .type "Exception", .type "BaseException", .type "object"] "ValueError.__new__" = true) (g_DEEDS_OF_A_LIFT : mg "DEEDS_OF_A_LIFT" = some (.ref kLF)) (g_DEEDS_OF_ALL : mg "DEEDS_OF_ALL" = some (.ref kAL)) (T1 : ∀ H : Hp, SqT K H kLF [.str (Str.ofString "block"), .str (Str.ofString "stick"), .str (Str.ofString "free"), .str (Str.ofString "goods"), .str (Str.ofString "back")]) (T2 : ∀ H : Hp, SqT K H kAL [.str (Str.ofString "fire"), .str (Str.ofString "calm")]) (x_read_number : CalX P w K mg base 3 "read_number" ["word"] (spRNum kNoDeed)) : FnOk P w K mg base (CXE P w) 4 f fd ["part", "tag"] (spRDeed kNoDeed) := by
  refine F.okX scReadDeed (fun vs H Q E h => ?_) (fun cdv A outer s H vs Q E hr h => ?_)
  · obtain ⟨p, tg, rfl, _⟩ := h
    rfl
  obtain ⟨p, tg, rfl, hp, q, qb⟩ := h
  have lfD : ∀ a : Str, ([Str.ofString "block", Str.ofString "stick", Str.ofString "free", Str.ofString "goods", Str.ofString "back"].map D.str).any (fun d => eqD d (.str a)) = decide (isLf a) := fun a => by rw [inD_strs]; exact decide_eq_decide.mpr (by unfold isLf; simp)
  have alD : ∀ a : Str, ([Str.ofString "fire", Str.ofString "calm"].map D.str).any (fun d => eqD d (.str a)) = decide (isSg a) := fun a => by rw [inD_strs]; exact decide_eq_decide.mpr (by unfold isSg; simp)
  have inLf : ∀ {a : Str} {H' : Hp} {Q' : VK}, Q' (.bl (decide (isLf a))) H' → seqInD K (.str a) kLF H' Q' := fun {a H' Q'} g => seqInDT (e := .str a) (T1 H') (den_strs [Str.ofString "block", Str.ofString "stick", Str.ofString "free", Str.ofString "goods", Str.ofString "back"]) (.str _) (fun d hd => by obtain ⟨y, _, rfl⟩ := List.mem_map.mp hd; simp [dep]) (by rw [lfD]; exact g)
  have inAl : ∀ {a : Str} {H' : Hp} {Q' : VK}, Q' (.bl (decide (isSg a))) H' → seqInD K (.str a) kAL H' Q' := fun {a H' Q'} g => seqInDT (e := .str a) (T2 H') (den_strs [Str.ofString "fire", Str.ofString "calm"]) (.str _) (fun d hd => by obtain ⟨y, _, rfl⟩ := List.mem_map.mp hd; simp [dep]) (by rw [alD]; exact g)
  refine ⟨_, (pss_cons (ps_set (i := 2) scReadDeed.nd rfl (Or.inl rfl) (we_bm (K := K) rfl PySem.F.plainAttrs_str PySem.F.slot_str_split PySem.F.type_str_split w_split (wv 0) (pa_c pe_str pa_nil))) (pss_cons (ps_set (i := 3) scReadDeed.nd rfl (Or.inl rfl) (pe_ix (w_ix (K := K) rfl) (wv 2) pe_int (fun _ _ => rfl))) (pss_cons (ws_if (PW.pt (ww_and (wt_cmp (w_eqA (K := K) rfl hr) (wv 3) pe_str (nomark _)) (ww_and (wt_cmp w_ge (pe_callBP (w_len (K := K) rfl) rfl m_len PySem.boot_len (pa_c (wv 2) pa_nil)) pe_int (nomark _)) (pw_and1 (wt_cmp (w_inD (K := K) rfl hr) (pe_slice (w_slX (K := K) rfl) (wv 2) (wo_some pe_int) po_none) (we_tup (pa_c (we_lst pa_nil) (pa_c (we_lst (pa_c pe_str pa_nil)) pa_nil))) (by with_unfolding_all rfl)))))) (pss_one (ps_ret (we_tup (pa_c pe_str (pa_c (wv 1) (pa_c (pe_fnX fl_body x_read_number hr (by decide) rfl (pa_c (pe_ix (w_ix (K := K) rfl) (wv 2) pe_int (fun _ _ => rfl)) pa_nil)) (pa_c (pe_fnX fl_body x_read_number hr (by decide) rfl (pa_c (pe_ix (w_ix (K := K) rfl) (wv 2) pe_int (fun _ _ => rfl)) pa_nil)) (pa_c (pe_cmpR w_gt (pe_callBP (w_len (K := K) rfl) rfl m_len PySem.boot_len (pa_c (wv 2) pa_nil)) pe_int (nomark _)) pa_nil)))))))) pss_nil) (pss_cons (ws_if (PW.pt (ww_and (wt_cmp (w_inD (K := K) rfl hr) (wv 3) (pe_gref rfl g_DEEDS_OF_A_LIFT) (by with_unfolding_all rfl)) (pw_and1 (wt_cmp (w_eqA (K := K) rfl hr) (pe_callBP (w_len (K := K) rfl) rfl m_len PySem.boot_len (pa_c (wv 2) pa_nil)) pe_int (nomark _))))) (pss_one (ps_ret (we_tup (pa_c (wv 3) (pa_c (pe_fnX fl_body x_read_number hr (by decide) rfl (pa_c (pe_ix (w_ix (K := K) rfl) (wv 2) pe_int (fun _ _ => rfl)) pa_nil)) pa_nil))))) pss_nil) (pss_cons (ws_if (wt_cmp (w_inD (K := K) rfl hr) (wv 0) (pe_gref rfl g_DEEDS_OF_ALL) (by with_unfolding_all rfl)) (pss_one (ps_ret (we_tup (pa_c (wv 0) pa_nil)))) pss_nil) (pss_one (ps_raise fl_body rfl i_NoDeed PySem.F.excBase_ValueError rfl g_NoDeed (pa_c (we_joined (pj_rep (wv 0) (pj_str pj_nil))) pa_nil)))))))), ?_⟩
  conv => whnf
  refine ⟨rfl, ?_⟩
  conv => whnf
  refine ⟨⟨rfl, szN (by have := hp.1; omega)⟩, fun l1 n1 => ?_⟩
  have hw : ∀ x ∈ wds p, TX x := fun x hx => hp.part hx
  have hl1 : 1 ≤ (wds p).length := split_len1
  have hl2 : (wds p).length ≤ 5002 := split_len2 hp
  have hsg : isSg p → wds p = [p] := sg_wds
  generalize hH1 : upd H l1 _ = H1
  have s1 : Same H H1 := by rw [← hH1]; exact .upd n1
  have e1 : H1 l1 = some (.lst ((wds p).map V.str)) := by rw [← hH1]; exact upd_same
  clear hH1
  unfold rdD at q qb
  have z1 : (Str.empty ++ reprText p ++ Str.ofString " is no deed").length ≤ sizeLine := (fs_sz hp (c := Str.ofString " is no deed") (by decide)).2.2
  have z2 := (fs_sz hp (c := Str.ofString " is no deed") (by decide)).1
  have z3 := (fs_sz hp (c := Str.ofString " is no deed") (by decide)).2.1
  revert q qb hw hl1 hl2 hsg e1
  generalize wds p = ws
  intro q qb hw hl1 hl2 hsg e1
  have inKey : ∀ {us : List Str} {l tp la lb : Addr} {H' : Hp} {Q' : VK}, H' l = some (.lst (us.map V.str)) → H' la = some (.lst []) → H' lb = some (.lst [.str tKey]) → H' tp = some (.tup [.ref la, .ref lb]) → Q' (.bl (decide (us = [] ∨ us = [tKey]))) H' → seqInD K (.ref l) tp H' Q' := fun {us l tp la lb H' Q'} h1 h2 h3 h4 g =>
    seqInDT (ds := [D.lst [], D.lst [.str tKey]]) (e := .lst (us.map D.str)) (SqT.of h4) (.cons (denL (SqL.of h2) .nil) (.cons (denL (SqL.of h3) (.cons (.str _) .nil)) .nil)) (denL (SqL.of h1) (den_strs us)) (fun d hd => by
      simp only [List.mem_cons, List.not_mem_nil, or_false] at hd
      rcases hd with rfl | rfl <;> simp [dep, deps]) (by rw [keyIn]; exact g)
  match ws, q, qb, hw, hl1, hl2, hsg, e1 with
  | [], q, qb, hw, hl1, hl2, hsg, e1 => exact absurd hl1 (by decide)
  | [a], q, qb, hw, hl1, hl2, hsg, e1 =>
    have e1 : H1 l1 = some (.lst [.str a]) := e1
    walk_at "l3go"
    refine ifD (fun c1 => ?_) (fun c1 => ?_)
    · walk_at "l3go"; walk_at "l3gr"; walk_at "l3go"
      refine inLf ?_
      conv => whnf
      refine ifD (fun c2 => ?_) (fun c2 => ?_)
      · subst c1; exact absurd rfl (lf_come c2)
      walk_at "l3go"
      refine inAl ?_
      conv => whnf
      refine ifD (fun c3 => ?_) (fun c3 => ?_)
      · conv => whnf
        exact tupI (szN (by show 1 ≤ 1000000; decide)) fun r H2 s2 n2 e2 => q (.sg p) (if_pos c3) r H2 (s1.trans s2) ⟨e2, c3⟩
      · conv => whnf
        exact ⟨z2, z3, z1, z1, szN (by show 1 ≤ 1000000; decide), qb (if_neg c3) H1 s1⟩
    · walk_at "l3go"
      refine inLf ?_
      conv => whnf
      refine ifD (fun c2 => ?_) (fun c2 => ?_)
      · walk_at "l3go"; walk_at "l3gr"; walk_at "l3go"
        refine inAl ?_
        conv => whnf
        refine ifD (fun c3 => ?_) (fun c3 => ?_)
        · conv => whnf
          exact tupI (szN (by show 1 ≤ 1000000; decide)) fun r H2 s2 n2 e2 => q (.sg p) (if_pos c3) r H2 (s1.trans s2) ⟨e2, c3⟩
        · conv => whnf
          exact ⟨z2, z3, z1, z1, szN (by show 1 ≤ 1000000; decide), qb (if_neg c3) H1 s1⟩
      · walk_at "l3go"
        refine inAl ?_
        conv => whnf
        refine ifD (fun c3 => ?_) (fun c3 => ?_)
        · conv => whnf
          exact tupI (szN (by show 1 ≤ 1000000; decide)) fun r H2 s2 n2 e2 => q (.sg p) (if_pos c3) r H2 (s1.trans s2) ⟨e2, c3⟩
        · conv => whnf
          exact ⟨z2, z3, z1, z1, szN (by show 1 ≤ 1000000; decide), qb (if_neg c3) H1 s1⟩
  | [a, b], q, qb, hw, hl1, hl2, hsg, e1 =>
    have e1 : H1 l1 = some (.lst [.str a, .str b]) := e1
    have nsg : ¬ isSg p := fun z => by have := hsg z; cases this
    have hb : TX b := hw b (.tail _ (.head _))
    walk_at "l3go"
    refine ifD (fun c1 => ?_) (fun c1 => ?_)
    · walk_at "l3go"; walk_at "l3gr"; walk_at "l3go"
      refine inLf ?_
      conv => whnf
      refine ifD (fun c2 => ?_) (fun c2 => ?_)
      · subst c1; exact absurd rfl (lf_come c2)
      walk_at "l3go"
      refine inAl ?_
      conv => whnf
      refine ifDf nsg ?_
      conv => whnf
      exact ⟨z2, z3, z1, z1, szN (by show 1 ≤ 1000000; decide), qb (if_neg c2) H1 s1⟩
    · walk_at "l3go"
      refine inLf ?_
      conv => whnf
      refine ifD (fun c2 => ?_) (fun c2 => ?_)
      · walk_at "l3go"; walk_at "l3gr"; walk_at "l3go"
        refine rnumI hb (fun n hn H2 s2 => ?_) (fun hn H2 s2 => ?_)
        · conv => whnf
          exact tupI (szN (by show 2 ≤ 1000000; decide)) fun r H3 s3 n3 e3 => q (.lf a n) (by show (if isLf a then (numOf b).map (Dd.lf a) else none) = _; rw [if_pos c2, hn]; rfl) r H3 ((s1.trans s2).trans s3) ⟨e3, c2⟩
        · exact qb (by show (if isLf a then (numOf b).map (Dd.lf a) else none) = _; rw [if_pos c2, hn]; rfl) H2 (s1.trans s2)
      · walk_at "l3go"
        refine inAl ?_
        conv => whnf
        refine ifDf nsg ?_
        conv => whnf
        exact ⟨z2, z3, z1, z1, szN (by show 1 ≤ 1000000; decide), qb (if_neg c2) H1 s1⟩
  | [a, b, c], q, qb, hw, hl1, hl2, hsg, e1 =>
    have e1 : H1 l1 = some (.lst [.str a, .str b, .str c]) := e1
    have nsg : ¬ isSg p := fun z => by have := hsg z; cases this
    have hb : TX b := hw b (.tail _ (.head _))
    have hc : TX c := hw c (.tail _ (.tail _ (.head _)))
    walk_at "l3go"
    refine ifD (fun c1 => ?_) (fun c1 => ?_)
    · walk_at "l3go"; walk_at "l3gr"; walk_at "l3go"
      refine slSeqL' (SqL.of e1) fun l2 H2 s2 n2 e2 => ?_
      conv => whnf
      refine lstI (szN (by show 0 ≤ 1000000; decide)) fun l3 H3 s3 n3 e3 => ?_
      conv => whnf
      refine lstI (szN (by show 1 ≤ 1000000; decide)) fun l4 H4 s4 n4 e4 => ?_
      conv => whnf
      refine tupI (szN (by show 2 ≤ 1000000; decide)) fun l5 H5 s5 n5 e5 => ?_
      conv => whnf
      refine inKey (us := []) (s5 _ _ (s4 _ _ (s3 _ _ e2))) (s5 _ _ (s4 _ _ e3)) (s5 _ _ e4) e5 ?_
      walk_at "l3go"
      refine rnumI hb (fun s hs H6 s6 => ?_) (fun hs H6 s6 => ?_)
      · walk_at "l3go"
        refine rnumI hc (fun g hg H7 s7 => ?_) (fun hg H7 s7 => ?_)
        · walk_at "l3go"
          exact tupI (szN (by show 5 ≤ 1000000; decide)) fun r H8 s8 n8 e8 => q (.come tg s g false) (by show (if a = tCome then (numOf b).bind fun s => (numOf c).map fun g => Dd.come tg s g false else none) = _; rw [if_pos c1, hs, hg]; rfl) r H8 (s1.trans (s2.trans (s3.trans (s4.trans (s5.trans (s6.trans (s7.trans s8))))))) ⟨e8, trivial⟩
        · exact qb (by show (if a = tCome then (numOf b).bind fun s => (numOf c).map fun g => Dd.come tg s g false else none) = _; rw [if_pos c1, hs, hg]; rfl) H7 (s1.trans (s2.trans (s3.trans (s4.trans (s5.trans (s6.trans s7))))))
      · exact qb (by show (if a = tCome then (numOf b).bind fun s => (numOf c).map fun g => Dd.come tg s g false else none) = _; rw [if_pos c1, hs]; rfl) H6 (s1.trans (s2.trans (s3.trans (s4.trans (s5.trans s6)))))
    · walk_at "l3go"
      refine inLf ?_
      conv => whnf
      refine ifD (fun c2 => ?_) (fun c2 => ?_)
      · walk_at "l3go"; walk_at "l3gr"; walk_at "l3go"
        refine inAl ?_
        conv => whnf
        refine ifDf nsg ?_
        conv => whnf
        exact ⟨z2, z3, z1, z1, szN (by show 1 ≤ 1000000; decide), qb (if_neg c1) H1 s1⟩
      · walk_at "l3go"
        refine inAl ?_
        conv => whnf
        refine ifDf nsg ?_
        conv => whnf
        exact ⟨z2, z3, z1, z1, szN (by show 1 ≤ 1000000; decide), qb (if_neg c1) H1 s1⟩
  | [a, b, c, d], q, qb, hw, hl1, hl2, hsg, e1 =>
    have e1 : H1 l1 = some (.lst [.str a, .str b, .str c, .str d]) := e1
    have nsg : ¬ isSg p := fun z => by have := hsg z; cases this
    have hb : TX b := hw b (.tail _ (.head _))
    have hc : TX c := hw c (.tail _ (.tail _ (.head _)))
    have last : ∀ {H'}, Same H H' → H' l1 = some (.lst [.str a, .str b, .str c, .str d]) → ¬ (a = tCome ∧ d = tKey) → E (.ref kNoDeed) none H' := fun {H'} sm e z => qb (if_neg z) H' sm
    walk_at "l3go"
    refine ifD (fun c1 => ?_) (fun c1 => ?_)
    · walk_at "l3go"; walk_at "l3gr"; walk_at "l3go"
      refine slSeqL' (SqL.of e1) fun l2 H2 s2 n2 e2 => ?_
      conv => whnf
      refine lstI (szN (by show 0 ≤ 1000000; decide)) fun l3 H3 s3 n3 e3 => ?_
      conv => whnf
      refine lstI (szN (by show 1 ≤ 1000000; decide)) fun l4 H4 s4 n4 e4 => ?_
      conv => whnf
      refine tupI (szN (by show 2 ≤ 1000000; decide)) fun l5 H5 s5 n5 e5 => ?_
      conv => whnf
      have s15 : Same H H5 := s1.trans (s2.trans (s3.trans (s4.trans s5)))
      have e15 : H5 l1 = some (.lst [.str a, .str b, .str c, .str d]) := s5 _ _ (s4 _ _ (s3 _ _ (s2 _ _ e1)))
      refine inKey (us := [d]) (s5 _ _ (s4 _ _ (s3 _ _ e2))) (s5 _ _ (s4 _ _ e3)) (s5 _ _ e4) e5 ?_
      conv => whnf
      refine ifD (fun c4 => ?_) (fun c4 => ?_)
      · have cd : a = tCome ∧ d = tKey := ⟨c1, by rcases c4 with z | z; cases z; exact List.cons.inj z |>.1⟩
        walk_at "l3go"
        refine rnumI hb (fun s hs H6 s6 => ?_) (fun hs H6 s6 => ?_)
        · walk_at "l3go"
          refine rnumI hc (fun g hg H7 s7 => ?_) (fun hg H7 s7 => ?_)
          · walk_at "l3go"
            exact tupI (szN (by show 5 ≤ 1000000; decide)) fun r H8 s8 n8 e8 => q (.come tg s g true) (by show (if a = tCome ∧ d = tKey then (numOf b).bind fun s => (numOf c).map fun g => Dd.come tg s g true else none) = _; rw [if_pos cd, hs, hg]; rfl) r H8 (s15.trans (s6.trans (s7.trans s8))) ⟨e8, trivial⟩
          · exact qb (by show (if a = tCome ∧ d = tKey then (numOf b).bind fun s => (numOf c).map fun g => Dd.come tg s g true else none) = _; rw [if_pos cd, hs, hg]; rfl) H7 (s15.trans (s6.trans s7))
        · exact qb (by show (if a = tCome ∧ d = tKey then (numOf b).bind fun s => (numOf c).map fun g => Dd.come tg s g true else none) = _; rw [if_pos cd, hs]; rfl) H6 (s15.trans s6)
      · have cd : ¬ (a = tCome ∧ d = tKey) := fun z => c4 (.inr (by rw [z.2]))
        walk_at "l3go"
        refine inLf ?_
        conv => whnf
        refine ifD (fun c2 => ?_) (fun c2 => ?_)
        · subst c1; exact absurd rfl (lf_come c2)
        walk_at "l3go"
        refine inAl ?_
        conv => whnf
        refine ifDf nsg ?_
        conv => whnf
        exact ⟨z2, z3, z1, z1, szN (by show 1 ≤ 1000000; decide), last s15 e15 cd⟩
    · walk_at "l3go"
      refine inLf ?_
      conv => whnf
      refine ifD (fun c2 => ?_) (fun c2 => ?_)
      · walk_at "l3go"; walk_at "l3gr"; walk_at "l3go"
        refine inAl ?_
        conv => whnf
        refine ifDf nsg ?_
        conv => whnf
        exact ⟨z2, z3, z1, z1, szN (by show 1 ≤ 1000000; decide), last s1 e1 fun z => c1 z.1⟩
      · walk_at "l3go"
        refine inAl ?_
        conv => whnf
        refine ifDf nsg ?_
        conv => whnf
        exact ⟨z2, z3, z1, z1, szN (by show 1 ≤ 1000000; decide), last s1 e1 fun z => c1 z.1⟩
  | a :: b :: c :: d :: e :: r, q, qb, hw, hl1, hl2, hsg, e1 =>
    have nsg : ¬ isSg p := fun z => by have := hsg z; cases this
    have ln : (V.str a :: V.str b :: V.str c :: V.str d :: V.str e :: r.map V.str).length = r.length + 5 := by simp
    have e1m := e1
    have e1 : H1 l1 = some (.lst (V.str a :: V.str b :: V.str c :: V.str d :: V.str e :: r.map V.str)) := e1
    conv => whnf
    refine seqAtL (SqL.of e1) (v := .str a) (atI_nat (j := 0) rfl) ?_
    conv => whnf
    refine ifD (fun c1 => ?_) (fun c1 => ?_)
    · conv => whnf
      refine seqLenL (SqL.of e1) ?_
      conv => whnf
      refine ifDt (by rw [ln]; omega) ?_
      conv => whnf
      refine slSeqL' (SqL.of e1m) fun l2 H2 s2 n2 e2 => ?_
      rw [cut3 _ (by simp)] at e2
      conv => whnf
      refine lstI (szN (by show 0 ≤ 1000000; decide)) fun l3 H3 s3 n3 e3 => ?_
      conv => whnf
      refine lstI (szN (by show 1 ≤ 1000000; decide)) fun l4 H4 s4 n4 e4 => ?_
      conv => whnf
      refine tupI (szN (by show 2 ≤ 1000000; decide)) fun l5 H5 s5 n5 e5 => ?_
      conv => whnf
      have s15 : Same H H5 := s1.trans (s2.trans (s3.trans (s4.trans s5)))
      refine inKey (us := d :: e :: r) (s5 _ _ (s4 _ _ (s3 _ _ e2))) (s5 _ _ (s4 _ _ e3)) (s5 _ _ e4) e5 ?_
      conv => whnf
      refine ifDf (fun z => by rcases z with z | z <;> cases z) ?_
      walk_at "l3go"
      refine inLf ?_
      conv => whnf
      refine ifD (fun c2 => ?_) (fun c2 => ?_)
      · subst c1; exact absurd rfl (lf_come c2)
      walk_at "l3go"
      refine inAl ?_
      conv => whnf
      refine ifDf nsg ?_
      conv => whnf
      exact ⟨z2, z3, z1, z1, szN (by show 1 ≤ 1000000; decide), qb rfl H5 s15⟩
    · walk_at "l3go"
      refine inLf ?_
      conv => whnf
      refine ifD (fun c2 => ?_) (fun c2 => ?_)
      · conv => whnf
        refine seqLenL (SqL.of e1) ?_
        conv => whnf
        refine ifDf (by rw [ln]; omega) ?_
        walk_at "l3go"
        refine inAl ?_
        conv => whnf
        refine ifDf nsg ?_
        conv => whnf
        exact ⟨z2, z3, z1, z1, szN (by show 1 ≤ 1000000; decide), qb rfl H1 s1⟩
      · walk_at "l3go"
        refine inAl ?_
        conv => whnf
        refine ifDf nsg ?_
        conv => whnf
        exact ⟨z2, z3, z1, z1, szN (by show 1 ≤ 1000000; decide), qb rfl H1 s1⟩
seal spRDeed
/-! ### turns read -/
def TellsT (kF kL kR kD : Addr) (H : Hp) (Q : VK) (E : XK) : List Dd ⊕ Du → Prop
  | .inl ds => ∀ l xs H', Same H H' → H l = none → H' l = some (.lst xs) → DsAt H' xs ds → Q (.ref l) H'
  | .inr u => Tells kF kL kR kD H Q E u
def spRTurn (K : PySem.W.Frag) (kF kL kR kD : Addr) : Sp := fun vs H Q E => ∃ x h fl n t, vs = [.str x, .ref h, .int t] ∧ TX x ∧ HsAt K H h fl n ∧ TellsT kF kL kR kD H Q E (rdS fl n x t)
theorem rturnI {kF kL kR kD : Addr} {H : Hp} {h : Addr} {fl t : Int} {n : Nat} {x : Str} {Q : VK} {E : XK} (h1 : TX x) (h2 : HsAt K H h fl n) (g : TellsT kF kL kR kD H Q E (rdS fl n x t)) : spRTurn K kF kL kR kD [.str x, .ref h, .int t] H Q E := ⟨x, h, fl, n, t, rfl, h1, h2, g⟩
theorem ok_rturn {kNoFloor kNoLift kNoRide kNoDeed T : Addr} (F : FunD K "read_turn" "read_turn" sReadTurn T f fd) (x_read_deed : CalX P w K mg base 4 "read_deed" ["part", "tag"] (spRDeed kNoDeed)) (x_need_deed : CalX P w K mg base 5 "need_deed" ["house", "deed"] (spNeed K kNoFloor kNoLift kNoRide kNoDeed)) : FnOk P w K mg base (CXE P w) 6 f fd ["text", "house", "first"] (spRTurn K kNoFloor kNoLift kNoRide kNoDeed) := by
  refine F.okX scReadTurn (fun vs H Q E h => ?_) (fun cdv A outer s H vs Q E hr h => ?_)
  · obtain ⟨x, h, fl, n, t, rfl, _⟩ := h
    rfl
  obtain ⟨x, h, fl, n, t, rfl, hx, hh, q⟩ := h
  refine ⟨_, (pss_cons (ps_set (i := 3) scReadTurn.nd rfl (Or.inl rfl) (we_lst pa_nil)) (pss_cons (ps_set (i := 4) scReadTurn.nd rfl (Or.inl rfl) (wv 2)) (pss_cons (ps_set (i := 5) scReadTurn.nd rfl (Or.inl rfl) (we_if (wt_cmp (w_neA (K := K) rfl hr) (wv 0) pe_str (nomark _)) (we_bm (K := K) rfl PySem.F.plainAttrs_str PySem.F.slot_str_split PySem.F.type_str_split w_split (wv 0) (pa_c pe_str pa_nil)) (we_lst pa_nil))) (pss_cons (ws_for own_body rfl (wi_seq (K := K) rfl (wv 5)) (pg_name (i := 6) scReadTurn.nd rfl (Or.inl rfl)) (pss_cons (ps_set (i := 7) scReadTurn.nd rfl (Or.inl rfl) (pe_fnX fl_body x_read_deed hr (by decide) rfl (pa_c (wv 6) (pa_c (wv 4) pa_nil)))) (pss_cons (ps_expr (pe_fnX fl_body x_need_deed hr (by decide) rfl (pa_c (wv 1) (pa_c (wv 7) pa_nil)))) (pss_cons (ps_expr (we_bm (K := K) rfl PySem.F.plainAttrs_list PySem.F.slot_list_append PySem.F.type_list_append w_append (wv 3) (pa_c (wv 7) pa_nil))) (pss_one (ws_if (wt_cmp (w_eqA (K := K) rfl hr) (pe_ix (w_ix (K := K) rfl) (wv 7) pe_int (fun _ _ => rfl)) pe_str (nomark _)) (pss_one (ps_aug (i := 4) scReadTurn.nd rfl (Or.inl rfl) pe_int ip_add)) pss_nil)))))) (pss_one (ps_ret (wv 3))))))), ?_⟩
  conv => whnf
  refine lstI (szN (by show 0 ≤ 1000000; decide)) fun l H1 s1 n1 e1 => ?_
  conv => whnf
  by_cases hx0 : x = Str.ofString ""
  · have hns : rdS fl n x t = .inl [] := if_pos hx0
    rw [hns] at q
    walk_at "l3go"
    refine lstI (szN (by show 0 ≤ 1000000; decide)) fun pl H2 s2 n2 e2 => ?_
    conv => whnf
    refine itSeqL (SqL.of e2) ?_
    refine forW_list (xs := []) (fun i σ HX => HX = H2 ∧ σ = [some (.str x), some (.ref h), some (.int t), some (.ref l), some (.int t), some (.ref pl), none, none]) ⟨rfl, rfl⟩ (fun i σ HX _ pv => by rw [pv.1]; exact SqL.of e2) (fun i y σ HX hy pv => by cases hy) (fun σ HX pv => ?_)
    obtain ⟨rfl, rfl⟩ := pv
    conv => whnf
    exact q l [] HX (s1.trans s2) n1 (s2 _ _ e1) .nil
  · have hns : rdS fl n x t = rdT fl n (cms x) t := if_neg hx0
    rw [hns] at q
    walk_at "l3go"
    refine ⟨rfl, ?_⟩
    conv => whnf
    refine ⟨⟨rfl, szN (by have := hx.1; omega)⟩, fun pl np => ?_⟩
    generalize hH2 : upd H1 pl _ = H2
    have s2 : Same H1 H2 := by rw [← hH2]; exact .upd np
    have e2 : H2 pl = some (.lst ((cms x).map V.str)) := by rw [← hH2]; exact upd_same
    clear hH2
    have nl : pl ≠ l := fun z => by rw [z] at np; rw [np] at e1; cases e1
    have hps : ∀ p ∈ cms x, TX p := fun p hp => hx.part hp
    have hpl : (cms x).length ≤ 5002 := split_len2 hx
    clear hns
    generalize cms x = ps at q e2 hps hpl
    conv => whnf
    refine itSeqL (SqL.of e2) ?_
    refine forW_list (xs := ps.map V.str) (fun i σ HX => Same H HX ∧ HX pl = some (.lst (ps.map V.str)) ∧ ∃ xs ds tg o1 o2, HX l = some (.lst xs) ∧ DsAt HX xs ds ∧ xs.length ≤ i ∧ rdT fl n ps t = pre ds (rdT fl n (ps.drop i) tg) ∧ σ = [some (.str x), some (.ref h), some (.int t), some (.ref l), some (.int tg), some (.ref pl), o1, o2]) ⟨s1.trans s2, e2, [], [], t, none, none, s2 _ _ e1, .nil, Nat.le_refl _, by rw [List.drop_zero, pre_nil], rfl⟩ (fun i σ HX _ pv => SqL.of pv.2.1) (fun i y σ HX hy pv => ?_) (fun σ HX pv => ?_)
    · obtain ⟨sx, ep, xs, ds, tg, o1, o2, el, hds, hxl, hrd, rfl⟩ := pv
      obtain ⟨p, hp, rfl⟩ : ∃ p, ps[i]? = some p ∧ y = .str p := by
        rw [List.getElem?_map] at hy
        obtain ⟨p, hp, e⟩ := Option.map_eq_some_iff.mp hy
        exact ⟨p, hp, e.symm⟩
      have hil : i < ps.length := (List.getElem?_eq_some_iff.mp hp).1
      have dr : ps.drop i = p :: ps.drop (i + 1) := by
        rw [List.drop_eq_getElem_cons hil, (List.getElem?_eq_some_iff.mp hp).2]
      rw [dr] at hrd
      conv => whnf
      refine rdeedI (hps p (List.mem_of_getElem? hp)) (fun d hd r H3 s3 da => ?_) (fun hd H3 s3 => ?_)
      · conv => whnf
        refine needI ((hh.same sx).same s3) da ?_
        cases hu : due fl n d with
        | good =>
          intro H4 s4
          conv => whnf
          have el4 := s4 _ _ (s3 _ _ el)
          refine ⟨.inl ⟨rfl, _, SqL.of el4⟩, ?_⟩
          conv => whnf
          refine appLI el4 (szL (by omega)) ?_
          generalize hH5 : upd H4 l (.lst (xs ++ [.ref r])) = H5
          have s5 : Same H H5 := by rw [← hH5]; exact Same.updF' (sx.trans (s3.trans s4)) n1
          have da5 : DdAt H5 r d := by rw [← hH5]; exact (da.same s4).upd el4
          have ds5 : DsAt H5 xs ds := by rw [← hH5]; exact ((hds.same s3).same s4).upd el4
          have el5 : H5 l = some (.lst (xs ++ [.ref r])) := by rw [← hH5]; exact upd_same
          have ep5 : H5 pl = some (.lst (ps.map V.str)) := by rw [← hH5, upd_ne nl]; exact s4 _ _ (s3 _ _ ep)
          clear hH5
          have ds6 : DsAt H5 (xs ++ [.ref r]) (ds ++ [d]) := Paired.app ds5 (.cons ⟨r, rfl, da5⟩ .nil)
          have hrd2 := hrd.trans (rdT_go (ps := ps.drop (i + 1)) ds hd hu)
          have hxl2 : (xs ++ [V.ref r]).length ≤ i + 1 := by simp; omega
          have T5 := SqT.of (K := K) da5.1
          cases d with
          | come t' s' g' k' =>
            conv => whnf
            refine seqAtT T5 (v := .str tCome) rfl ?_
            conv => whnf
            refine ifB_t rfl ?_
            conv => whnf
            refine ⟨_, rfl, ?_⟩
            conv => whnf
            refine ⟨_, _, rfl, rfl, ?_⟩
            exact ⟨s5, ep5, _, _, tg + 1, _, _, el5, ds6, hxl2, hrd2, rfl⟩
          | lf y' i' =>
            conv => whnf
            refine seqAtT T5 (v := .str y') rfl ?_
            conv => whnf
            refine ifB_f (decide_eq_false (lf_come da5.2)) ?_
            exact ⟨s5, ep5, _, _, tg, _, _, el5, ds6, hxl2, hrd2, rfl⟩
          | sg y' =>
            conv => whnf
            refine seqAtT T5 (v := .str y') rfl ?_
            conv => whnf
            refine ifB_f (decide_eq_false (sg_come da5.2)) ?_
            exact ⟨s5, ep5, _, _, tg, _, _, el5, ds6, hxl2, hrd2, rfl⟩
        | floor i' =>
          have e : rdT fl n ps t = .inr (.floor i') := by rw [hrd, rdT_no hd (by rw [hu]; exact fun z => by cases z), hu]; rfl
          rw [e] at q
          exact fun dd H4 s4 ed => q dd H4 (sx.trans (s3.trans s4)) ed
        | lift i' =>
          have e : rdT fl n ps t = .inr (.lift i') := by rw [hrd, rdT_no hd (by rw [hu]; exact fun z => by cases z), hu]; rfl
          rw [e] at q
          exact fun dd H4 s4 ed => q dd H4 (sx.trans (s3.trans s4)) ed
        | ride =>
          have e : rdT fl n ps t = .inr .ride := by rw [hrd, rdT_no hd (by rw [hu]; exact fun z => by cases z), hu]; rfl
          rw [e] at q
          exact fun H4 s4 => q H4 (sx.trans (s3.trans s4))
        | deed =>
          have e : rdT fl n ps t = .inr .deed := by rw [hrd, rdT_no hd (by rw [hu]; exact fun z => by cases z), hu]; rfl
          rw [e] at q
          exact fun H4 s4 => q H4 (sx.trans (s3.trans s4))
      · have e : rdT fl n ps t = .inr .deed := by rw [hrd, rdT_bad hd]; rfl
        rw [e] at q
        exact q H3 (sx.trans s3)
    · obtain ⟨sx, ep, xs, ds, tg, o1, o2, el, hds, hxl, hrd, rfl⟩ := pv
      have e : rdT fl n ps t = .inl ds := by
        rw [hrd, List.length_map, List.drop_of_length_le (Nat.le_refl _)]
        show Sum.inl (ds ++ []) = _
        rw [List.append_nil]
      rw [e] at q
      conv => whnf
      exact q l xs HX sx n1 el hds
seal spRTurn
/-! ### deeds written -/
/-- a word of a deed as it is told -/
def WRel (x : V) (w : Str) : Prop := x = .str w ∨ ∃ j : Int, x = .int j ∧ 0 ≤ j ∧ j ≤ 9 ∧ w = dig j
theorem log_ok {i : Int} (h0 : 0 ≤ i) (h1 : i ≤ 9) : i.natAbs.log2 < 1920 := by
  rcases (show i = 0 ∨ i = 1 ∨ i = 2 ∨ i = 3 ∨ i = 4 ∨ i = 5 ∨ i = 6 ∨ i = 7 ∨ i = 8 ∨ i = 9 by omega) with rfl | rfl | rfl | rfl | rfl | rfl | rfl | rfl | rfl | rfl <;> decide +kernel
theorem wt_le {k : Nat} : ∀ {ts : List Str}, (∀ t ∈ ts, t.length ≤ k) → wt ts ≤ (k + 2) * ts.length
  | [], _ => by unfold wt; simp
  | t :: ts, h => by
    have := wt_le fun x hx => h x (.tail _ hx)
    have := h t (.head _)
    rw [wt_cons, List.length_cons, Nat.mul_succ]
    omega
def spSDeed : Sp := fun vs H Q _ => ∃ a d fl n, vs = [.ref a] ∧ DdAt H a d ∧ d.fit fl n ∧ fl ≤ 8 ∧ n ≤ 3 ∧ ∀ H', Same H H' → Q (.str (ddT d)) H'
theorem sdeedI {H : Hp} {a : Addr} {d : Dd} {fl : Int} {n : Nat} {Q : VK} {E : XK} (h1 : DdAt H a d) (h2 : d.fit fl n) (h3 : fl ≤ 8) (h4 : n ≤ 3) (g : ∀ H', Same H H' → Q (.str (ddT d)) H') : spSDeed [.ref a] H Q E := ⟨a, d, fl, n, rfl, h1, h2, h3, h4, g⟩
theorem ok_sdeed (F : Fun K "shown_deed" "shown_deed" sShownDeed f fd) (m_list : mg "list" = none) (m_str : mg "str" = none) : FnOk P w K mg base CX0 1 f fd ["deed"] spSDeed := by
  refine F.ok scShownDeed (fun vs H Q E h => ?_) (fun cdv A outer s H vs Q E hr h => ?_)
  · obtain ⟨a, d, fl, n, rfl, _⟩ := h
    rfl
  obtain ⟨a, d, fl, n, rfl, ⟨ea, ok⟩, hf, f8, n3, q⟩ := h
  have hT := SqT.of (K := K) ea
  have hws := ws_ok f8 n3 hf
  refine ⟨_, (pss_cons (ps_set (i := 1) scShownDeed.nd rfl (Or.inl rfl) (pe_callTyP (w_list (K := K) rfl) rfl m_list boot_list (pa_c (wv 0) pa_nil))) (pss_cut (ws_if (wt_cmp (w_eqA (K := K) rfl hr) (pe_ix (w_ix (K := K) rfl) (wv 0) pe_int (fun _ _ => rfl)) pe_str (nomark _)) (pss_one (ps_set (i := 1) scShownDeed.nd rfl (Or.inl rfl) (pe_op (w_addY (K := K) rfl) (we_lst (pa_c pe_str (pa_c (pe_ix (w_ix (K := K) rfl) (wv 0) pe_int (fun _ _ => rfl)) (pa_c (pe_ix (w_ix (K := K) rfl) (wv 0) pe_int (fun _ _ => rfl)) pa_nil)))) (we_if (wt_tr (K := K) rfl (pe_ix (w_ix (K := K) rfl) (wv 0) pe_int (fun _ _ => rfl))) (we_lst (pa_c pe_str pa_nil)) (we_lst pa_nil))))) pss_nil) (pss_one (ps_ret (we_bm (K := K) rfl PySem.F.plainAttrs_str PySem.F.slot_str_join PySem.F.type_str_join (w_join (K := K) rfl) pe_str (pa_c (we_comp rfl (comp_scope (N' := ["word"]) (pk := [none]) (by kernel_rfl)) (wi_seq (K := K) rfl (wv 1)) (fun C s H ex => (pg_name (i := 0) (show List.Nodup (["word"] : List Str) by decide +kernel) rfl (Or.inl rfl))) (fun C s H ex => pts_nil) (fun C s H ex => (pe_callTyP w_strA rfl m_str boot_str (pa_c (wv 0) pa_nil)))) pa_nil)))))), ?_⟩
  conv => whnf
  refine listLA' (.inr hT) fun l1 H1 s1 n1 e1 => ?_
  conv => whnf
  refine cutI (fun σ H' => Same H H' ∧ ∃ p xs, σ = [some (.ref a), some (.ref p)] ∧ H' p = some (.lst xs) ∧ Paired WRel xs d.ws) ?_ ?_
  · have hT1 := s1.seqT hT
    cases d with
    | come t s g k =>
      obtain ⟨a0, a1, b0, b1, _⟩ := hf
      have hT1 : SqT K H1 a [.str tCome, .int t, .int s, .int g, .bl k] := hT1
      have rs : WRel (.int s) (dig s) := .inr ⟨s, rfl, a0, by omega, rfl⟩
      have rg : WRel (.int g) (dig g) := .inr ⟨g, rfl, b0, by omega, rfl⟩
      conv => whnf
      refine seqAtT hT1 (v := .str tCome) rfl ?_
      conv => whnf
      refine ifB_t rfl ?_
      conv => whnf
      refine seqAtT hT1 (v := .int s) rfl ?_
      conv => whnf
      refine seqAtT hT1 (v := .int g) rfl ?_
      conv => whnf
      refine lstI (szN (by show 3 ≤ 1000000; decide)) fun l2 H2 s2 n2 e2 => ?_
      conv => whnf
      refine seqAtT (s2.seqT hT1) (v := .bl k) rfl ?_
      conv => whnf
      cases k with
      | true =>
        refine ifB_t rfl ?_
        conv => whnf
        refine lstI (szN (by show 1 ≤ 1000000; decide)) fun l3 H3 s3 n3 e3 => ?_
        conv => whnf
        refine catBL (s3 _ _ e2) e3 (szN (by show 3 + 1 ≤ 1000000; decide)) fun l4 H4 s4 n4 e4 => ?_
        exact ⟨s1.trans (s2.trans (s3.trans s4)), l4, _, rfl, e4, .cons (.inl rfl) (.cons rs (.cons rg (.cons (.inl rfl) .nil)))⟩
      | false =>
        refine ifB_f rfl ?_
        conv => whnf
        refine lstI (szN (by show 0 ≤ 1000000; decide)) fun l3 H3 s3 n3 e3 => ?_
        conv => whnf
        refine catBL (s3 _ _ e2) e3 (szN (by show 3 + 0 ≤ 1000000; decide)) fun l4 H4 s4 n4 e4 => ?_
        exact ⟨s1.trans (s2.trans (s3.trans s4)), l4, _, rfl, e4, .cons (.inl rfl) (.cons rs (.cons rg .nil))⟩
    | lf x i =>
      obtain ⟨hl, i0, i1⟩ := hf
      have hT1 : SqT K H1 a [.str x, .int i] := hT1
      conv => whnf
      refine seqAtT hT1 (v := .str x) rfl ?_
      conv => whnf
      refine ifB_f (decide_eq_false (lf_come hl)) ?_
      exact ⟨s1, l1, _, rfl, e1, .cons (.inl rfl) (.cons (.inr ⟨i, rfl, i0, by omega, rfl⟩) .nil)⟩
    | sg x =>
      have hT1 : SqT K H1 a [.str x] := hT1
      conv => whnf
      refine seqAtT hT1 (v := .str x) rfl ?_
      conv => whnf
      refine ifB_f (decide_eq_false (sg_come hf)) ?_
      exact ⟨s1, l1, _, rfl, e1, .cons (.inl rfl) .nil⟩
  rintro σ' H' ⟨sm, p, xs, rfl, ep, hrel⟩
  have hlen := hrel.len
  have hl4 := ws_len d
  conv => whnf
  refine ⟨rfl, ?_⟩
  conv => whnf
  refine itSeqL (SqL.of ep) ?_
  refine comp_list (xs := xs) (fun i zs HX => HX = H' ∧ zs = (d.ws.take i).map V.str) (szN (by omega)) (fun i zs HX p => by rw [p.2, List.length_map, List.length_take]; exact Nat.min_le_left _ _) ⟨rfl, rfl⟩ (fun i zs HX _ p => by rw [p.1]; exact SqL.of ep) (fun i x zs HX hxi p => ?_) (fun zs HX p a3 n3 => ?_)
  · obtain ⟨rfl, rfl⟩ := p
    obtain ⟨w, hw, r⟩ := hrel.get1 hxi
    rcases r with rfl | ⟨j, rfl, j0, j9, rfl⟩
    · conv => whnf
      refine ⟨sup_set, rfl, ?_⟩
      rw [List.take_add_one, hw, List.map_append]
      rfl
    · conv => whnf
      refine ⟨sup_set, log_ok j0 j9, rfl, ?_⟩
      rw [List.take_add_one, hw, List.map_append]
      rfl
  obtain ⟨rfl, rfl⟩ := p
  rw [List.take_of_length_le (by omega)]
  generalize hH3 : upd HX a3 _ = H3
  have s3 : Same HX H3 := by rw [← hH3]; exact .upd n3
  have e3 : H3 a3 = some (.lst (d.ws.map V.str)) := by rw [← hH3]; exact upd_same
  clear hH3
  have hwt : wt d.ws ≤ 100000 := by
    have := wt_le (k := 5) fun t ht => (hws t ht).2.1
    omega
  obtain ⟨j1, j2⟩ := wt_sz (z := spS) (by decide) hwt
  conv => whnf
  refine joinLI (SqL.of e3) j1 j2 ?_
  rw [PySem.StrLaws.glued_eq_join]
  exact q H3 (sm.trans s3)
seal spSDeed
def spSTurn (K : PySem.W.Frag) : Sp := fun vs H Q _ => ∃ l xs ds fl n, vs = [.ref l] ∧ SqL K H l xs ∧ DsAt H xs ds ∧ (∀ d ∈ ds, d.fit fl n) ∧ fl ≤ 8 ∧ n ≤ 3 ∧ ds.length ≤ 90 ∧ ∀ H', Same H H' → Q (.str (shT ds)) H'
theorem sturnI {H : Hp} {l : Addr} {xs : List V} {ds : List Dd} {fl : Int} {n : Nat} {Q : VK} {E : XK} (h1 : SqL K H l xs) (h2 : DsAt H xs ds) (h3 : ∀ d ∈ ds, d.fit fl n) (h4 : fl ≤ 8) (h5 : n ≤ 3) (h6 : ds.length ≤ 90) (g : ∀ H', Same H H' → Q (.str (shT ds)) H') : spSTurn K [.ref l] H Q E := ⟨l, xs, ds, fl, n, rfl, h1, h2, h3, h4, h5, h6, g⟩
theorem ok_sturn (F : Fun K "shown_turn" "shown_turn" sShownTurn f fd) (c_shown_deed : Cal P w K mg base 1 "shown_deed" ["deed"] spSDeed) : FnOk P w K mg base CX0 2 f fd ["deeds"] (spSTurn K) := by
  refine F.ok scShownTurn (fun vs H Q E h => ?_) (fun cdv A outer s H vs Q E hr h => ?_)
  · obtain ⟨l, xs, ds, fl, n, rfl, _⟩ := h
    rfl
  obtain ⟨l, xs, ds, fl, n, rfl, hL, hds, hf, f8, n3, hl, q⟩ := h
  have hlen := hds.len
  refine ⟨_, (pss_one (ps_ret (we_bm (K := K) rfl PySem.F.plainAttrs_str PySem.F.slot_str_join PySem.F.type_str_join (w_join (K := K) rfl) pe_str (pa_c (we_comp rfl (comp_scope (N' := ["deed"]) (pk := [none]) (by kernel_rfl)) (wi_seq (K := K) rfl (wv 0)) (fun C s H ex => (pg_name (i := 0) (show List.Nodup (["deed"] : List Str) by decide +kernel) rfl (Or.inl rfl))) (fun C s H ex => pts_nil) (fun C s H ex => (pe_fnP c_shown_deed hr (by decide) rfl (pa_c (wv 0) pa_nil)))) pa_nil)))), ?_⟩
  conv => whnf
  refine ⟨rfl, ?_⟩
  conv => whnf
  refine itSeqL hL ?_
  refine comp_list (xs := xs) (fun i zs HX => Same H HX ∧ zs = ((ds.map ddT).take i).map V.str) (szN (by omega)) (fun i zs HX p => by rw [p.2, List.length_map, List.length_take]; exact Nat.min_le_left _ _) ⟨.refl _, rfl⟩ (fun i zs HX _ p => p.1.seq hL) (fun i x zs HX hxi p => ?_) (fun zs HX p a3 n3' => ?_)
  · obtain ⟨sx, rfl⟩ := p
    obtain ⟨d, hd, a, rfl, da⟩ := hds.get1 hxi
    conv => whnf
    refine ⟨sup_set, ?_⟩
    conv => whnf
    refine sdeedI (da.same sx) (hf d (List.mem_of_getElem? hd)) f8 n3 fun H2 s2 => ?_
    refine ⟨sx.trans s2, ?_⟩
    rw [List.take_add_one, List.getElem?_map, hd, List.map_append]
    rfl
  obtain ⟨sx, rfl⟩ := p
  rw [List.take_of_length_le (by rw [List.length_map]; omega)]
  generalize hH3 : upd HX a3 _ = H3
  have s3 : Same HX H3 := by rw [← hH3]; exact .upd n3'
  have e3 : H3 a3 = some (.lst ((ds.map ddT).map V.str)) := by rw [← hH3]; exact upd_same
  clear hH3
  have hwt : wt (ds.map ddT) ≤ 100000 := by
    have := wt_le (k := 13) (ts := ds.map ddT) fun t ht => by
      obtain ⟨d, hd, rfl⟩ := List.mem_map.mp ht
      exact ddT_len f8 n3 (hf d hd)
    rw [List.length_map] at this
    omega
  obtain ⟨j1, j2⟩ := wt_sz (z := cmS) (by decide) hwt
  conv => whnf
  refine joinLI (SqL.of e3) j1 j2 ?_
  rw [PySem.StrLaws.glued_eq_join]
  exact q H3 (sx.trans s3)
theorem ok_lshown (F : Fun K "_law_shown" "_law_shown" sLShown f fd) (c_law_shown_deed : Cal P w K mg base 1 "_law_shown_deed" ["_law_deed_here"] spSDeed) : FnOk P w K mg base CX0 2 f fd ["_law_deeds"] (spSTurn K) := by
  refine F.ok scLShown (fun vs H Q E h => ?_) (fun cdv A outer s H vs Q E hr h => ?_)
  · obtain ⟨l, xs, ds, fl, n, rfl, _⟩ := h
    rfl
  obtain ⟨l, xs, ds, fl, n, rfl, hL, hds, hf, f8, n3, hl, q⟩ := h
  have hlen := hds.len
  refine ⟨_, (pss_one (ps_ret (we_bm (K := K) rfl PySem.F.plainAttrs_str PySem.F.slot_str_join PySem.F.type_str_join (w_join (K := K) rfl) pe_str (pa_c (we_comp rfl (comp_scope (N' := ["_law_deed_here"]) (pk := [none]) (by kernel_rfl)) (wi_seq (K := K) rfl (wv 0)) (fun C s H ex => (pg_name (i := 0) (show List.Nodup (["_law_deed_here"] : List Str) by decide +kernel) rfl (Or.inl rfl))) (fun C s H ex => pts_nil) (fun C s H ex => (pe_fnP c_law_shown_deed hr (by decide) rfl (pa_c (wv 0) pa_nil)))) pa_nil)))), ?_⟩
  conv => whnf
  refine ⟨rfl, ?_⟩
  conv => whnf
  refine itSeqL hL ?_
  refine comp_list (xs := xs) (fun i zs HX => Same H HX ∧ zs = ((ds.map ddT).take i).map V.str) (szN (by omega)) (fun i zs HX p => by rw [p.2, List.length_map, List.length_take]; exact Nat.min_le_left _ _) ⟨.refl _, rfl⟩ (fun i zs HX _ p => p.1.seq hL) (fun i x zs HX hxi p => ?_) (fun zs HX p a3 n3' => ?_)
  · obtain ⟨sx, rfl⟩ := p
    obtain ⟨d, hd, a, rfl, da⟩ := hds.get1 hxi
    conv => whnf
    refine ⟨sup_set, ?_⟩
    conv => whnf
    refine sdeedI (da.same sx) (hf d (List.mem_of_getElem? hd)) f8 n3 fun H2 s2 => ?_
    refine ⟨sx.trans s2, ?_⟩
    rw [List.take_add_one, List.getElem?_map, hd, List.map_append]
    rfl
  obtain ⟨sx, rfl⟩ := p
  rw [List.take_of_length_le (by rw [List.length_map]; omega)]
  generalize hH3 : upd HX a3 _ = H3
  have s3 : Same HX H3 := by rw [← hH3]; exact .upd n3'
  have e3 : H3 a3 = some (.lst ((ds.map ddT).map V.str)) := by rw [← hH3]; exact upd_same
  clear hH3
  have hwt : wt (ds.map ddT) ≤ 100000 := by
    have := wt_le (k := 13) (ts := ds.map ddT) fun t ht => by
      obtain ⟨d, hd, rfl⟩ := List.mem_map.mp ht
      exact ddT_len f8 n3 (hf d hd)
    rw [List.length_map] at this
    omega
  obtain ⟨j1, j2⟩ := wt_sz (z := cmS) (by decide) hwt
  conv => whnf
  refine joinLI (SqL.of e3) j1 j2 ?_
  rw [PySem.StrLaws.glued_eq_join]
  exact q H3 (sx.trans s3)
seal spSTurn
/-! ### days -/
def spCom (K : PySem.W.Frag) : Sp := fun vs H Q _ => ∃ l xs ds, vs = [.ref l] ∧ SqL K H l xs ∧ DsAt H xs ds ∧ ds.length ≤ 100000 ∧ ∀ p ys H', Same H H' → H' p = some (.lst ys) → ys.length = nC ds → Q (.ref p) H'
theorem comI {H : Hp} {l : Addr} {xs : List V} {ds : List Dd} {Q : VK} {E : XK} (h1 : SqL K H l xs) (h2 : DsAt H xs ds) (h3 : ds.length ≤ 100000) (g : ∀ p ys H', Same H H' → H' p = some (.lst ys) → ys.length = nC ds → Q (.ref p) H') : spCom K [.ref l] H Q E := ⟨l, xs, ds, rfl, h1, h2, h3, g⟩
theorem isCome_is {d : Dd} (h : d.ok) : ∃ x vs, d.v = V.str x :: vs ∧ decide (x = tCome) = d.isCome := by
  cases d with
  | come t s g k => exact ⟨_, _, rfl, rfl⟩
  | lf x i => exact ⟨x, _, rfl, decide_eq_false (lf_come h)⟩
  | sg x => exact ⟨x, _, rfl, decide_eq_false (sg_come h)⟩
theorem ok_com (F : Fun K "comings" "comings" sComings f fd) : FnOk P w K mg base CX0 1 f fd ["deeds"] (spCom K) := by
  refine F.ok scComings (fun vs H Q E h => ?_) (fun cdv A outer s H vs Q E hr h => ?_)
  · obtain ⟨l, xs, ds, rfl, _⟩ := h
    rfl
  obtain ⟨l, xs, ds, rfl, hL, hds, hz, q⟩ := h
  have hlen := hds.len
  refine ⟨_, (pss_one (ps_ret (we_comp rfl (comp_scope (N' := ["deed"]) (pk := [none]) (by kernel_rfl)) (wi_seq (K := K) rfl (wv 0)) (fun C s H ex => (pg_name (i := 0) (show List.Nodup (["deed"] : List Str) by decide +kernel) rfl (Or.inl rfl))) (fun C s H ex => (pts_one (wt_cmp (w_eqA (K := K) rfl hr) (pe_ix (w_ix (K := K) rfl) (wv 0) pe_int (fun _ _ => rfl)) pe_str (nomark _)))) (fun C s H ex => (wv 0))))), ?_⟩
  conv => whnf
  refine itSeqL hL ?_
  refine comp_list (xs := xs) (fun i zs HX => HX = H ∧ zs.length = nC (ds.take i) ∧ zs.length ≤ i) (szN (by omega)) (fun i zs HX p => p.2.2) ⟨rfl, rfl, Nat.le_refl _⟩ (fun i zs HX _ p => by rw [p.1]; exact hL) (fun i x zs HX hxi p => ?_) (fun zs HX p a3 n3 => ?_)
  · obtain ⟨rfl, e1, e2⟩ := p
    obtain ⟨d, hd, a, rfl, da⟩ := hds.get1 hxi
    obtain ⟨nm, vs, ev, hc⟩ := isCome_is da.2
    have T : SqT K HX a (.str nm :: vs) := SqT.of (by rw [← ev]; exact da.1)
    have en : nC (ds.take (i + 1)) = nC (ds.take i) + (if d.isCome = true then 1 else 0) := by rw [List.take_add_one, hd]; exact nC_snoc _ _
    conv => whnf
    refine ⟨sup_set, ?_⟩
    conv => whnf
    refine seqAtT T (v := .str nm) (atI_nat (j := 0) rfl) ?_
    show if decide (nm = tCome) = true then _ else _
    rw [hc]
    cases h : d.isCome with
    | true =>
      rw [if_pos rfl]
      refine ⟨rfl, ?_, ?_⟩
      · rw [en, h, List.length_append, e1]; rfl
      · rw [List.length_append]; show _ + 1 ≤ _; omega
    | false =>
      rw [if_neg Bool.false_ne_true]
      refine ⟨rfl, ?_, by omega⟩
      rw [en, h, e1]; rfl
  obtain ⟨rfl, e1, e2⟩ := p
  rw [List.take_of_length_le (by omega)] at e1
  exact q a3 zs _ (.upd n3) upd_same e1
seal spCom
def DyAt (H : Hp) (as : List Addr) (dss : List (List Dd)) : Prop := Paired (fun a ds => ∃ ys, H a = some (.lst ys) ∧ DsAt H ys ds) as dss
theorem DyAt.same {H H' : Hp} {as : List Addr} {dss : List (List Dd)} (h : DyAt H as dss) (s : Same H H') : DyAt H' as dss := Paired.imp' (fun _ _ ⟨ys, e, z⟩ => ⟨ys, s _ _ e, z.same s⟩) h
theorem DyAt.upd : ∀ {as : List Addr} {dss : List (List Dd)} {H : Hp} {l : Addr} {zs : List V} {o : HO}, DyAt H as dss → H l = some (.lst zs) → l ∉ as → DyAt (L2.upd H l o) as dss
  | _, _, _, _, _, _, .nil, _, _ => .nil
  | _, _, H, l, zs, o, .cons ⟨ys, e, z⟩ r, hl, hn => .cons ⟨ys, by rw [upd_ne (fun y => hn (by rw [y]; exact .head _))]; exact e, z.upd hl⟩ (DyAt.upd r hl fun y => hn (.tail _ y))
def TellsY (kF kL kR kD : Addr) (H : Hp) (Q : VK) (E : XK) : List (List Dd) ⊕ Du → Prop
  | .inl dss => ∀ l as H', Same H H' → H l = none → H' l = some (.lst (as.map V.ref)) → DyAt H' as dss → (∀ a ∈ as, H a = none) → Q (.ref l) H'
  | .inr u => Tells kF kL kR kD H Q E u
def spRDay (K : PySem.W.Frag) (kF kL kR kD : Addr) : Sp := fun vs H Q E => ∃ x h fl n, vs = [.str x, .ref h] ∧ TX x ∧ HsAt K H h fl n ∧ TellsY kF kL kR kD H Q E (rdDy fl n x)
theorem rdayI {kF kL kR kD : Addr} {H : Hp} {h : Addr} {fl : Int} {n : Nat} {x : Str} {Q : VK} {E : XK} (h1 : TX x) (h2 : HsAt K H h fl n) (g : TellsY kF kL kR kD H Q E (rdDy fl n x)) : spRDay K kF kL kR kD [.str x, .ref h] H Q E := ⟨x, h, fl, n, rfl, h1, h2, g⟩
theorem rdS_len {fl : Int} {n : Nat} {x : Str} {t : Int} (h : TX x) : ∀ ds, rdS fl n x t = .inl ds → ds.length ≤ 100000 := by
  intro ds e
  unfold rdS at e
  split at e
  · cases e; exact Nat.zero_le _
  · have := rdT_len e
    have := split_len2 (y := cmS) h
    unfold cms at *
    omega
theorem ok_rday {kNoFloor kNoLift kNoRide kNoDeed : Addr} (F : Fun K "read_day" "read_day" sReadDay f fd) (m_len : mg "len" = none) (x_read_turn : CalX P w K mg base 6 "read_turn" ["text", "house", "first"] (spRTurn K kNoFloor kNoLift kNoRide kNoDeed)) (c_comings : Cal P w K mg base 1 "comings" ["deeds"] (spCom K)) : FnOk P w K mg base (CXE P w) 7 f fd ["text", "house"] (spRDay K kNoFloor kNoLift kNoRide kNoDeed) := by
  refine F.okX scReadDay (fun vs H Q E h => ?_) (fun cdv A outer s H vs Q E hr h => ?_)
  · obtain ⟨x, h, fl, n, rfl, _⟩ := h
    rfl
  obtain ⟨x, h, fl, n, rfl, hx, hh, q⟩ := h
  refine ⟨_, (pss_cons (ps_set (i := 2) scReadDay.nd rfl (Or.inl rfl) (we_lst pa_nil)) (pss_cons (ps_set (i := 3) scReadDay.nd rfl (Or.inl rfl) pe_int) (pss_cons (ws_for own_body rfl (wi_seq (K := K) rfl (we_bm (K := K) rfl PySem.F.plainAttrs_str PySem.F.slot_str_split PySem.F.type_str_split w_split (wv 0) (pa_c pe_str pa_nil))) (pg_name (i := 4) scReadDay.nd rfl (Or.inl rfl)) (pss_cons (ps_set (i := 5) scReadDay.nd rfl (Or.inl rfl) (pe_fnX fl_body x_read_turn hr (by decide) rfl (pa_c (wv 4) (pa_c (wv 1) (pa_c (wv 3) pa_nil))))) (pss_cons (ps_expr (we_bm (K := K) rfl PySem.F.plainAttrs_list PySem.F.slot_list_append PySem.F.type_list_append w_append (wv 2) (pa_c (wv 5) pa_nil))) (pss_one (ps_aug (i := 3) scReadDay.nd rfl (Or.inl rfl) (pe_callBP (w_len (K := K) rfl) rfl m_len PySem.boot_len (pa_c (pe_fnP c_comings hr (by decide) rfl (pa_c (wv 5) pa_nil)) pa_nil)) ip_add))))) (pss_one (ps_ret (wv 2)))))), ?_⟩
  conv => whnf
  refine lstI (szN (by show 0 ≤ 1000000; decide)) fun l H1 s1 n1 e1 => ?_
  conv => whnf
  refine ⟨rfl, ?_⟩
  conv => whnf
  refine ⟨⟨rfl, szN (by have := hx.1; omega)⟩, fun pl np => ?_⟩
  generalize hH2 : upd H1 pl _ = H2
  have s2 : Same H1 H2 := by rw [← hH2]; exact .upd np
  have e2 : H2 pl = some (.lst ((sms x).map V.str)) := by rw [← hH2]; exact upd_same
  clear hH2
  have nl : pl ≠ l := fun z => by rw [z] at np; rw [np] at e1; cases e1
  have hps : ∀ p ∈ sms x, TX p := fun p hp => hx.part hp
  have hpl : (sms x).length ≤ 5002 := split_len2 hx
  unfold rdDy at q
  generalize sms x = ps at q e2 hps hpl
  conv => whnf
  refine itSeqL (SqL.of e2) ?_
  refine forW_list (xs := ps.map V.str) (fun i σ HX => Same H HX ∧ HX pl = some (.lst (ps.map V.str)) ∧ ∃ as dss tg o1 o2, HX l = some (.lst (as.map V.ref)) ∧ DyAt HX as dss ∧ (∀ a ∈ as, H a = none ∧ a ≠ l) ∧ as.length ≤ i ∧ rdY fl n ps 0 = preY dss (rdY fl n (ps.drop i) tg) ∧ σ = [some (.str x), some (.ref h), some (.ref l), some (.int tg), o1, o2]) ⟨s1.trans s2, e2, [], [], 0, none, none, s2 _ _ e1, .nil, (fun a ha => nomatch ha), Nat.le_refl _, by rw [List.drop_zero, preY_nil], rfl⟩ (fun i σ HX _ pv => SqL.of pv.2.1) (fun i y σ HX hy pv => ?_) (fun σ HX pv => ?_)
  · obtain ⟨sx, ep, as, dss, tg, o1, o2, el, hds, hfr, hxl, hrd, rfl⟩ := pv
    obtain ⟨p, hp, rfl⟩ : ∃ p, ps[i]? = some p ∧ y = .str p := by
      rw [List.getElem?_map] at hy
      obtain ⟨p, hp, e⟩ := Option.map_eq_some_iff.mp hy
      exact ⟨p, hp, e.symm⟩
    have hpx := hps p (List.mem_of_getElem? hp)
    have hil : i < ps.length := (List.getElem?_eq_some_iff.mp hp).1
    have dr : ps.drop i = p :: ps.drop (i + 1) := by
      rw [List.drop_eq_getElem_cons hil, (List.getElem?_eq_some_iff.mp hp).2]
    rw [dr] at hrd
    conv => whnf
    refine rturnI hpx (hh.same sx) ?_
    cases hu : rdS fl n p tg with
    | inr u =>
      have e : rdY fl n ps 0 = .inr u := by rw [hrd, rdY_bad hu]; rfl
      rw [e] at q
      cases u with
      | good => exact absurd hu rdS_ne
      | floor i' => exact fun dd H4 s4 ed => q dd H4 (sx.trans s4) ed
      | lift i' => exact fun dd H4 s4 ed => q dd H4 (sx.trans s4) ed
      | ride => exact fun H4 s4 => q H4 (sx.trans s4)
      | deed => exact fun H4 s4 => q H4 (sx.trans s4)
    | inl ds =>
      intro a ys H3 s3 na ea hd
      have el3 := s3 _ _ el
      have hal : a ≠ l := fun z => by rw [z, el] at na; cases na
      have hHa : H a = none := by
        cases z : H a with
        | none => rfl
        | some o => rw [sx _ _ z] at na; cases na
      conv => whnf
      refine ⟨.inl ⟨rfl, _, SqL.of el3⟩, ?_⟩
      conv => whnf
      refine appLI el3 (szL (by rw [List.length_map]; omega)) ?_
      generalize hH5 : upd H3 l (.lst (as.map V.ref ++ [.ref a])) = H5
      have s5 : Same H H5 := by rw [← hH5]; exact Same.updF' (sx.trans s3) n1
      have ds5 : DyAt H5 as dss := by rw [← hH5]; exact DyAt.upd (DyAt.same hds s3) el3 fun z => (hfr l z).2 rfl
      have el5 : H5 l = some (.lst ((as ++ [a]).map V.ref)) := by rw [← hH5, upd_same, List.map_append]; rfl
      have ep5 : H5 pl = some (.lst (ps.map V.str)) := by rw [← hH5, upd_ne nl]; exact s3 _ _ ep
      have ea5 : H5 a = some (.lst ys) := by rw [← hH5, upd_ne hal]; exact ea
      have hd5 : DsAt H5 ys ds := by rw [← hH5]; exact hd.upd el3
      clear hH5
      have hrd2 := hrd.trans (rdY_go (ps := ps.drop (i + 1)) dss hu)
      conv => whnf
      refine ⟨.int tg, rfl, ?_⟩
      conv => whnf
      refine comI (SqL.of ea5) hd5 (rdS_len hpx ds hu) fun cl cs H6 s6 e6 hcl => ?_
      conv => whnf
      refine seqLenL (SqL.of e6) ?_
      conv => whnf
      refine ⟨_, _, rfl, rfl, ?_⟩
      rw [hcl]
      exact ⟨s5.trans s6, s6 _ _ ep5, as ++ [a], dss ++ [ds], _, _, _, s6 _ _ el5, Paired.app (DyAt.same ds5 s6) (.cons ⟨ys, s6 _ _ ea5, hd5.same s6⟩ .nil), (fun b hb => by
        rcases List.mem_append.mp hb with hb | hb
        · exact hfr b hb
        · rw [List.mem_singleton.mp hb]; exact ⟨hHa, hal⟩), by simp; omega, hrd2, rfl⟩
  · obtain ⟨sx, ep, as, dss, tg, o1, o2, el, hds, hfr, hxl, hrd, rfl⟩ := pv
    have e : rdY fl n ps 0 = .inl dss := by
      rw [hrd, List.length_map, List.drop_of_length_le (Nat.le_refl _)]
      show Sum.inl (dss ++ []) = _
      rw [List.append_nil]
    rw [e] at q
    conv => whnf
    exact q l as HX sx n1 el hds fun a ha => (hfr a ha).1
seal spRDay
def spSDay (K : PySem.W.Frag) : Sp := fun vs H Q _ => ∃ l as dss fl n, vs = [.ref l] ∧ SqL K H l (as.map V.ref) ∧ DyAt H as dss ∧ (∀ ds ∈ dss, ∀ d ∈ ds, d.fit fl n) ∧ fl ≤ 8 ∧ n ≤ 3 ∧ dss.length ≤ 9 ∧ (∀ ds ∈ dss, ds.length ≤ 90) ∧ ∀ H', Same H H' → Q (.str (dyT dss)) H'
theorem sdayI {H : Hp} {l : Addr} {as : List Addr} {dss : List (List Dd)} {fl : Int} {n : Nat} {Q : VK} {E : XK} (h1 : SqL K H l (as.map V.ref)) (h2 : DyAt H as dss) (h3 : ∀ ds ∈ dss, ∀ d ∈ ds, d.fit fl n) (h4 : fl ≤ 8) (h5 : n ≤ 3) (h6 : dss.length ≤ 9) (h7 : ∀ ds ∈ dss, ds.length ≤ 90) (g : ∀ H', Same H H' → Q (.str (dyT dss)) H') : spSDay K [.ref l] H Q E := ⟨l, as, dss, fl, n, rfl, h1, h2, h3, h4, h5, h6, h7, g⟩
theorem dy_wt {fl : Int} {n : Nat} {dss : List (List Dd)} (f8 : fl ≤ 8) (n3 : n ≤ 3) (hf : ∀ ds ∈ dss, ∀ d ∈ ds, d.fit fl n) (h9 : dss.length ≤ 9) (h60 : ∀ ds ∈ dss, ds.length ≤ 90) : wt (dss.map shT) ≤ 100000 := by
  have := wt_le (k := 1260) (ts := dss.map shT) fun t ht => by
    obtain ⟨ds, hd, rfl⟩ := List.mem_map.mp ht
    exact (shT_ok f8 n3 (hf ds hd) (h60 ds hd)).1
  rw [List.length_map] at this
  omega
theorem ok_sday (F : Fun K "shown_day" "shown_day" sShownDay f fd) (c_shown_turn : Cal P w K mg base 2 "shown_turn" ["deeds"] (spSTurn K)) : FnOk P w K mg base CX0 3 f fd ["day"] (spSDay K) := by
  refine F.ok scShownDay (fun vs H Q E h => ?_) (fun cdv A outer s H vs Q E hr h => ?_)
  · obtain ⟨l, as, dss, fl, n, rfl, _⟩ := h
    rfl
  obtain ⟨l, as, dss, fl, n, rfl, hL, hds, hf, f8, n3, h9, h60, q⟩ := h
  have hlen := hds.len
  refine ⟨_, (pss_one (ps_ret (we_bm (K := K) rfl PySem.F.plainAttrs_str PySem.F.slot_str_join PySem.F.type_str_join (w_join (K := K) rfl) pe_str (pa_c (we_comp rfl (comp_scope (N' := ["deeds"]) (pk := [none]) (by kernel_rfl)) (wi_seq (K := K) rfl (wv 0)) (fun C s H ex => (pg_name (i := 0) (show List.Nodup (["deeds"] : List Str) by decide +kernel) rfl (Or.inl rfl))) (fun C s H ex => pts_nil) (fun C s H ex => (pe_fnP c_shown_turn hr (by decide) rfl (pa_c (wv 0) pa_nil)))) pa_nil)))), ?_⟩
  conv => whnf
  refine ⟨rfl, ?_⟩
  conv => whnf
  refine itSeqL hL ?_
  refine comp_list (xs := as.map V.ref) (fun i zs HX => Same H HX ∧ zs = ((dss.map shT).take i).map V.str) (szN (by rw [List.length_map]; omega)) (fun i zs HX p => by rw [p.2, List.length_map, List.length_take]; exact Nat.min_le_left _ _) ⟨.refl _, rfl⟩ (fun i zs HX _ p => p.1.seq hL) (fun i x zs HX hxi p => ?_) (fun zs HX p a3 n3' => ?_)
  · obtain ⟨sx, rfl⟩ := p
    rw [List.getElem?_map] at hxi
    obtain ⟨a, ha, rfl⟩ := Option.map_eq_some_iff.mp hxi
    obtain ⟨ds, hd, ys, ey, hy⟩ := hds.get1 ha
    have hm := List.mem_of_getElem? hd
    conv => whnf
    refine ⟨sup_set, ?_⟩
    conv => whnf
    refine sturnI (sx.seq (SqL.of ey)) (DsAt.same hy sx) (hf ds hm) f8 n3 (h60 ds hm) fun H2 s2 => ?_
    refine ⟨sx.trans s2, ?_⟩
    rw [List.take_add_one, List.getElem?_map, hd, List.map_append]
    rfl
  obtain ⟨sx, rfl⟩ := p
  rw [List.take_of_length_le (by rw [List.length_map, List.length_map]; omega)]
  generalize hH3 : upd HX a3 _ = H3
  have s3 : Same HX H3 := by rw [← hH3]; exact .upd n3'
  have e3 : H3 a3 = some (.lst ((dss.map shT).map V.str)) := by rw [← hH3]; exact upd_same
  clear hH3
  obtain ⟨j1, j2⟩ := wt_sz (z := smS) (by decide) (dy_wt f8 n3 hf h9 h60)
  conv => whnf
  refine joinLI (SqL.of e3) j1 j2 ?_
  rw [PySem.StrLaws.glued_eq_join]
  exact q H3 (sx.trans s3)
seal spSDay
end
end My

set_option Elab.async false
set_option linter.all false
set_option maxRecDepth 100000
set_option maxHeartbeats 1000000
def PySem.W.Fast.tw10204162688595828560 : Unit := ()
def PySem.W.Fast.tw11879465706027461264 : Unit := ()
def PySem.W.Fast.tw12442377760247705466 : Unit := ()
def PySem.W.Fast.tw506211250390711179 : Unit := ()
def PySem.W.Fast.tw9646360703914287977 : Unit := ()
def PySem.W.Fast.tw11526535579059504478 : Unit := ()
def PySem.W.Fast.tw16480071793587031307 : Unit := ()
def PySem.W.Fast.tw15930395917803989503 : Unit := ()
def PySem.W.Fast.tw18325876066438871576 : Unit := ()
def PySem.W.Fast.tw14451581040666466489 : Unit := ()
def PySem.W.Fast.tw9986416062079815365 : Unit := ()
def PySem.W.Fast.tw13854686408679379573 : Unit := ()
def PySem.W.Fast.tw7882119085228690311 : Unit := ()
def PySem.W.Fast.tw12481303230839779899 : Unit := ()
def PySem.W.Fast.tw8685122983545821984 : Unit := ()
def PySem.W.Fast.tw12079852264036300218 : Unit := ()
def PySem.W.Fast.tw739180103770423652 : Unit := ()
def PySem.W.Fast.tw11262421781635277209 : Unit := ()
namespace My
open PySem L2 PyProof.Rows
seal PE PT PS PSs PA PI PG PGs PTs PW PO OpR UnR CallR IxR MtR SlR PSet
seal ifB seqLen seqAt signAt catL seqIn intOf isiRef seqTru slSeq joinL appL allL listL tupL itSeq setL unpT forW cmpW wWhile CMul CDiv CPow strIn findV tCut eqRef revL
seal catA isiAny isiExc L2.fldAt L2.putAt L2.methAt newAt clrL rvsL extL popL excO mkT mkL catB anyL seqInD tMk0
seal xputAt xfldAt initAt cmpWX spCell spDr spGr spWhole spTag spLift spHouse spRider spDeed spNFloor spNLift spNRide spNeed spWn spNum spRNum spRDeed spRTurn spSDeed spSTurn spCom spRDay spSDay
section
variable {P : Program} {w : World} {K : PySem.W.Frag} {mg : Str → Option Value} {base : Heap} {f : Addr} {fd : FuncData}
/-! ### deeds written by the law -/
unseal spSDeed in
theorem ok_lsdeed (F : Fun K "_law_shown_deed" "_law_shown_deed" sLShownDeed f fd) (m_str : mg "str" = none) : FnOk P w K mg base CX0 1 f fd ["_law_deed_here"] spSDeed := by
  refine F.ok scLShownDeed (fun vs H Q E h => ?_) (fun cdv A outer s H vs Q E hr h => ?_)
  · obtain ⟨a, d, fl, n, rfl, _⟩ := h
    rfl
  obtain ⟨a, d, fl, n, rfl, ⟨ea, ok⟩, hf, f8, n3, q⟩ := h
  have hT := SqT.of (K := K) ea
  have hws := ws_ok f8 n3 hf
  refine ⟨_, (pss_cons (ws_if (wt_cmp (w_neA (K := K) rfl hr) (pe_ix (w_ix (K := K) rfl) (wv 0) pe_int (fun _ _ => rfl)) pe_str (nomark _)) (pss_one (ps_ret (we_bm (K := K) rfl PySem.F.plainAttrs_str PySem.F.slot_str_join PySem.F.type_str_join (w_join (K := K) rfl) pe_str (pa_c (pe_op (w_addY (K := K) rfl) (we_lst (pa_c (pe_ix (w_ix (K := K) rfl) (wv 0) pe_int (fun _ _ => rfl)) pa_nil)) (we_comp rfl (comp_scope (N' := ["_law_number_here"]) (pk := [none]) (by kernel_rfl)) (wi_seq (K := K) rfl (pe_slice (w_slX (K := K) rfl) (wv 0) (wo_some pe_int) po_none)) (fun C s H ex => (pg_name (i := 0) (show List.Nodup (["_law_number_here"] : List Str) by decide +kernel) rfl (Or.inl rfl))) (fun C s H ex => pts_nil) (fun C s H ex => (pe_callTyP w_strI rfl m_str boot_str (pa_c (wv 0) pa_nil))))) pa_nil)))) pss_nil) (pss_cons (ps_set (i := 1) scLShownDeed.nd rfl (Or.inl rfl) (pe_op (w_addY (K := K) rfl) (pe_op (w_addY (K := K) rfl) (pe_op (w_addY (K := K) rfl) pe_str (pe_callTyP w_strI rfl m_str boot_str (pa_c (pe_ix (w_ix (K := K) rfl) (wv 0) pe_int (fun _ _ => rfl)) pa_nil))) pe_str) (pe_callTyP w_strI rfl m_str boot_str (pa_c (pe_ix (w_ix (K := K) rfl) (wv 0) pe_int (fun _ _ => rfl)) pa_nil)))) (pss_cut (ws_if (wt_tr (K := K) rfl (pe_ix (w_ix (K := K) rfl) (wv 0) pe_int (fun _ _ => rfl))) (pss_one (ps_set (i := 1) scLShownDeed.nd rfl (Or.inl rfl) (pe_op (w_addY (K := K) rfl) (wv 1) pe_str))) pss_nil) (pss_one (ps_ret (wv 1)))))), ?_⟩
  by_cases hc : d.isCome = true
  · cases d with
    | lf x i => cases hc
    | sg x => cases hc
    | come t s g k =>
      obtain ⟨a0, a1, b0, b1, _⟩ := hf
      have hT : SqT K H a [.str tCome, .int t, .int s, .int g, .bl k] := hT
      have d1 : (Str.ofString (toString s)).length = 1 := (dig_ok (i := s) a0 (by omega)).2.1
      have d2 : (Str.ofString (toString g)).length = 1 := (dig_ok (i := g) b0 (by omega)).2.1
      have l1 : (Str.ofString "come ").length = 5 := by decide
      have l2 : (Str.ofString " ").length = 1 := by decide
      have l3 : (Str.ofString " key").length = 4 := by decide
      conv => whnf
      refine seqAtT hT (v := .str tCome) rfl ?_
      conv => whnf
      refine ifB_f rfl ?_
      conv => whnf
      refine seqAtT hT (v := .int s) rfl ?_
      conv => whnf
      refine ⟨log_ok a0 (by omega), ?_⟩
      conv => whnf
      refine ⟨szN (by omega), ?_⟩
      conv => whnf
      refine ⟨szN (by simp only [strLen_append]; omega), ?_⟩
      conv => whnf
      refine seqAtT hT (v := .int g) rfl ?_
      conv => whnf
      refine ⟨log_ok b0 (by omega), ?_⟩
      conv => whnf
      refine ⟨szN (by simp only [strLen_append]; omega), ?_⟩
      conv => whnf
      refine cutI (fun σ H' => H' = H ∧ σ = [some (.ref a), some (.str (ddT (.come t s g k)))]) ?_ ?_
      · conv => whnf
        refine seqAtT hT (v := .bl k) rfl ?_
        conv => whnf
        cases k with
        | true =>
          refine ifB_t rfl ?_
          conv => whnf
          refine ⟨szN (by simp only [strLen_append]; omega), ?_⟩
          have e : (Str.ofString "come " ++ Str.ofString (toString s) ++ Str.ofString " " ++ Str.ofString (toString g) ++ Str.ofString " key") = ddT (.come t s g true) := by
            show _ = tCome ++ spS ++ (dig s ++ spS ++ (dig g ++ spS ++ tKey))
            rw [show Str.ofString "come " = tCome ++ spS by decide +kernel, show Str.ofString " key" = spS ++ tKey by decide +kernel]
            unfold dig
            simp only [Str.append_assoc]
          rw [← e]
          exact ⟨rfl, rfl⟩
        | false =>
          refine ifB_f rfl ?_
          have e : (Str.ofString "come " ++ Str.ofString (toString s) ++ Str.ofString " " ++ Str.ofString (toString g)) = ddT (.come t s g false) := by
            show _ = tCome ++ spS ++ (dig s ++ spS ++ dig g)
            rw [show Str.ofString "come " = tCome ++ spS by decide +kernel]
            unfold dig
            simp only [Str.append_assoc]
          rw [← e]
          exact ⟨rfl, rfl⟩
      rintro σ' H' ⟨rfl, rfl⟩
      conv => whnf
      exact q _ (.refl _)
  · obtain ⟨x, vs, us, ev, ew, hne, hrel⟩ : ∃ x vs us, d.v = V.str x :: vs ∧ d.ws = x :: us ∧ x ≠ tCome ∧ Paired (fun v (u : Str) => ∃ j : Int, v = V.int j ∧ 0 ≤ j ∧ j ≤ 9 ∧ u = dig j) vs us := by
      cases d with
      | come => exact absurd rfl hc
      | lf x i => exact ⟨x, [.int i], [dig i], rfl, rfl, lf_come hf.1, .cons ⟨i, rfl, hf.2.1, by have := hf.2.2; omega, rfl⟩ .nil⟩
      | sg x => exact ⟨x, [], [], rfl, rfl, sg_come hf, .nil⟩
    rw [ev] at hT
    have hlen := hrel.len
    have hwl := ws_len d
    rw [ew, List.length_cons] at hwl
    conv => whnf
    refine seqAtT hT (v := .str x) (atI_nat (j := 0) rfl) ?_
    conv => whnf
    refine ifB_t (by show (!decide (x = tCome)) = true; rw [decide_eq_false hne]; rfl) ?_
    conv => whnf
    refine ⟨rfl, ?_⟩
    conv => whnf
    refine seqAtT hT (v := .str x) (atI_nat (j := 0) rfl) ?_
    conv => whnf
    refine lstI (szN (by show 1 ≤ 1000000; decide)) fun l1 H1 s1 n1 e1 => ?_
    conv => whnf
    have e0 : HT.sIx (V.str x :: vs).length 0 (some 1) = 1 := by
      rw [show (some (1 : Int)) = some ((1 : Nat) : Int) from rfl, HT.sIx_nat, List.length_cons]; omega
    refine slSeqT' (s1.seqT hT) (fun z => by rw [e0] at z; exact absurd z.1 (by decide)) fun l2 H2 s2 n2 e2 => ?_
    rw [cutV_tail] at e2
    conv => whnf
    refine itSeqT (SqT.of e2) ?_
    refine comp_tup (xs := vs) (fun i zs HX => HX = H2 ∧ zs = (us.take i).map V.str) (szN (by omega)) (fun i zs HX p => by rw [p.2, List.length_map, List.length_take]; exact Nat.min_le_left _ _) ⟨rfl, rfl⟩ (fun i zs HX _ p => by rw [p.1]; exact SqT.of e2) (fun i y zs HX hxi p => ?_) (fun zs HX p a3 n3' => ?_)
    · obtain ⟨rfl, rfl⟩ := p
      obtain ⟨u, hu, j, rfl, j0, j9, rfl⟩ := hrel.get1 hxi
      conv => whnf
      refine ⟨sup_set, log_ok j0 j9, rfl, ?_⟩
      rw [List.take_add_one, hu, List.map_append]
      rfl
    obtain ⟨rfl, rfl⟩ := p
    rw [List.take_of_length_le (by omega)]
    generalize hH3 : upd HX a3 _ = H3
    have s3 : Same HX H3 := by rw [← hH3]; exact .upd n3'
    have e3 : H3 a3 = some (.lst (us.map V.str)) := by rw [← hH3]; exact upd_same
    clear hH3
    conv => whnf
    refine catBL (s3 _ _ (s2 _ _ e1)) e3 (szN (by rw [List.length_map]; show 1 + _ ≤ _; omega)) fun l4 H4 s4 n4 e4 => ?_
    have e4 : H4 l4 = some (.lst (d.ws.map V.str)) := by rw [e4, ew]; rfl
    have hwt : wt d.ws ≤ 100000 := by
      have := wt_le (k := 5) fun t ht => (hws t ht).2.1
      have := ws_len d
      omega
    obtain ⟨j1, j2⟩ := wt_sz (z := spS) (by decide) hwt
    conv => whnf
    refine joinLI (SqL.of e4) j1 j2 ?_
    rw [PySem.StrLaws.glued_eq_join]
    exact q H4 (s1.trans (s2.trans (s3.trans s4)))
/-! ### numbers, parts and turns read by the law -/
def lnum (x : Str) : Int := match numOf x with
  | none => -1
  | some n => n
theorem lnum_no {x : Str} (h : wnum x = false) : lnum x = -1 := by
  unfold lnum numOf natOf
  rw [h]
  rfl
theorem lnum_neg {x : Str} : lnum x < 0 ↔ numOf x = none := by
  unfold lnum
  cases h : numOf x with
  | none => simp
  | some n => have := numOf_nn h; simp; omega
theorem lnum_some {x : Str} (h : ¬ lnum x < 0) : numOf x = some (lnum x) := by
  unfold lnum at h ⊢
  cases z : numOf x with
  | none => rw [z] at h; exact absurd (show (-1 : Int) < 0 by decide) h
  | some n => rfl
def spLNum : Sp := fun vs H Q _ => ∃ x : Str, vs = [.str x] ∧ TX x ∧ Q (.int (lnum x)) H
theorem lnumI {H : Hp} {x : Str} {Q : VK} {E : XK} (h : TX x) (g : Q (.int (lnum x)) H) : spLNum [.str x] H Q E := ⟨x, rfl, h, g⟩
theorem ok_lnum (F : Fun K "_law_number" "_law_number" sLNumber f fd) (m_len : mg "len" = none) (m_int : mg "int" = none) : FnOk P w K mg base CX0 1 f fd ["_law_word"] spLNum := by
  refine F.ok scLNumber (fun vs H Q E h => ?_) (fun cdv A outer s H vs Q E hr h => ?_)
  · obtain ⟨x, rfl, _⟩ := h
    rfl
  obtain ⟨x, rfl, hx, q⟩ := h
  have hz : x.length ≤ sizeLine := szN (by have := hx.1; omega)
  have hcl := len_codes x
  have no : wnum x = false → Q (.int (-1)) H := fun z => by rw [lnum_no z] at q; exact q
  refine ⟨_, (pss_cons (ws_if (PW.pt (ww_or (wt_cmp (w_eqA (K := K) rfl hr) (wv 0) pe_str (nomark _)) (ww_or (wt_cmp w_gt (pe_callBP (w_len (K := K) rfl) rfl m_len PySem.boot_len (pa_c (wv 0) pa_nil)) pe_int (nomark _)) (pw_or1 (PW.pt (ww_and (wt_cmp w_gt (pe_callBP (w_len (K := K) rfl) rfl m_len PySem.boot_len (pa_c (wv 0) pa_nil)) pe_int (nomark _)) (pw_and1 (wt_cmp (w_eqA (K := K) rfl hr) (pe_ix (w_ix (K := K) rfl) (wv 0) pe_int (fun _ _ => rfl)) pe_str (nomark _))))))))) (pss_one (ps_ret (pe_un w_neg pe_int))) pss_nil) (pss_cons (ws_for PassesOwn.never rfl (wi_seq (K := K) rfl (wv 0)) (pg_name (i := 1) scLNumber.nd rfl (Or.inl rfl)) (pss_one (ws_if (wt_cmp (w_notin (K := K) rfl) (wv 1) pe_str (by with_unfolding_all rfl)) (pss_one (ps_ret (pe_un w_neg pe_int))) pss_nil))) (pss_one (ps_ret (pe_callTyP w_int rfl m_int boot_int (pa_c (wv 0) pa_nil)))))), ?_⟩
  conv => whnf
  refine ifD (fun h0 => ?_) (fun h0 => ?_)
  · refine ifB_t rfl ?_
    exact no (by unfold wnum; rw [if_pos (.inl (by rw [h0]; decide))])
  have hl0 : x.length ≠ 0 := fun z => h0 (by
    refine str_ext ?_
    rw [List.eq_nil_of_length_eq_zero (by omega : x.cps.toList.length = 0)]
    decide +kernel)
  conv => whnf
  refine ⟨hz, ?_⟩
  conv => whnf
  refine ifD (fun h9 => ?_) (fun h9 => ?_)
  · have h9 : (x.length : Int) > 9 := h9
    refine ifB_t rfl ?_
    exact no (by unfold wnum; rw [if_pos (.inr (by omega))])
  have h9 : ¬ (x.length : Int) > 9 := h9
  obtain ⟨c, hc⟩ : ∃ c, x.cps.toList[0]? = some c := ⟨x.cps.toList[0], by simp [List.getElem?_eq_getElem (show 0 < x.cps.toList.length by omega)]⟩
  have loop : ¬ (x.cps.toList[0]? = some 48 ∧ x ≠ Str.ofString "0") → wnum x = x.cps.toList.all fun c => decide (c ∈ figC) := fun z => by
    unfold wnum
    rw [if_neg (by omega), if_neg z]
  conv => whnf
  refine ⟨hz, ?_⟩
  conv => whnf
  refine ifD (fun h1 => ?_) (fun h1 => ?_)
  · have h1 : (x.length : Int) > 1 := h1
    have hx0 : x ≠ Str.ofString "0" := fun z => by rw [z] at h1; exact absurd h1 (by decide)
    conv => whnf
    refine signAtI hz (atI_nat (j := 0) hc) ?_
    conv => whnf
    refine ifD (fun h48 => ?_) (fun h48 => ?_)
    · conv => whnf
      exact no (by unfold wnum; rw [if_neg (by omega), if_pos ⟨by rw [hc, (one0 c).mp h48], hx0⟩])
    have hnz : ¬ (x.cps.toList[0]? = some 48 ∧ x ≠ Str.ofString "0") := fun z => h48 ((one0 c).mpr (by rw [hc] at z; exact Option.some.inj z.1))
    have hall := loop hnz
    conv => whnf
    refine forW_str (fun i σ HX => HX = H ∧ (∀ c ∈ x.cps.toList.take i, c ∈ figC) ∧ ∃ o, σ = [some (.str x), o]) ⟨rfl, (fun c hc => nomatch hc), _, rfl⟩ (fun i c σ HX hci pv => ?_) (fun σ HX pv => ?_)
    · obtain ⟨rfl, pa, o, rfl⟩ := pv
      have hc' : x.cps.toList[i]? = some c := by rw [Array.getElem?_toList]; exact hci
      conv => whnf
      rw [strIn_fig]
      by_cases hf : c ∈ figC
      · refine ifB_f (by rw [decide_eq_true hf]; rfl) ?_
        refine ⟨rfl, fun d hd => ?_, _, rfl⟩
        rw [List.take_add_one, hc'] at hd
        rcases List.mem_append.mp hd with hd | hd
        · exact pa d hd
        · rw [List.mem_singleton.mp hd]; exact hf
      · refine ifB_t (by rw [decide_eq_false hf]; rfl) ?_
        refine no ?_
        rw [hall]
        refine List.all_eq_false.mpr ⟨c, List.mem_of_getElem? hc', by simpa using hf⟩
    · obtain ⟨rfl, pa, o, rfl⟩ := pv
      rw [show x.cps.size = x.cps.toList.length by simp, List.take_length] at pa
      have hw : wnum x = true := by rw [hall]; exact List.all_eq_true.mpr fun c hc => decide_eq_true (pa c hc)
      have e : lnum x = ((PySem.NumText.digitsVal x.cps.toList : Nat) : Int) := by unfold lnum numOf natOf; rw [if_pos hw]; rfl
      rw [e] at q
      have h9' := (wnum_digits hw).2.2
      conv => whnf
      exact intOfI (PySem.intText_digits (wnum_digits hw).1 (wnum_digits hw).2.1 (by omega)) (by omega) q
  · have h1 : ¬ (x.length : Int) > 1 := h1
    have hnz : ¬ (x.cps.toList[0]? = some 48 ∧ x ≠ Str.ofString "0") := fun z => z.2 (by
      refine str_ext ?_
      have e1 : x.cps.toList.length = 1 := by omega
      obtain ⟨d, ed⟩ := List.length_eq_one_iff.mp e1
      rw [ed] at z ⊢
      have : d = 48 := Option.some.inj z.1
      rw [this]
      decide +kernel)
    have hall := loop hnz
    conv => whnf
    refine ifB_f rfl ?_
    conv => whnf
    refine forW_str (fun i σ HX => HX = H ∧ (∀ c ∈ x.cps.toList.take i, c ∈ figC) ∧ ∃ o, σ = [some (.str x), o]) ⟨rfl, (fun c hc => nomatch hc), _, rfl⟩ (fun i c σ HX hci pv => ?_) (fun σ HX pv => ?_)
    · obtain ⟨rfl, pa, o, rfl⟩ := pv
      have hc' : x.cps.toList[i]? = some c := by rw [Array.getElem?_toList]; exact hci
      conv => whnf
      rw [strIn_fig]
      by_cases hf : c ∈ figC
      · refine ifB_f (by rw [decide_eq_true hf]; rfl) ?_
        refine ⟨rfl, fun d hd => ?_, _, rfl⟩
        rw [List.take_add_one, hc'] at hd
        rcases List.mem_append.mp hd with hd | hd
        · exact pa d hd
        · rw [List.mem_singleton.mp hd]; exact hf
      · refine ifB_t (by rw [decide_eq_false hf]; rfl) ?_
        refine no ?_
        rw [hall]
        refine List.all_eq_false.mpr ⟨c, List.mem_of_getElem? hc', by simpa using hf⟩
    · obtain ⟨rfl, pa, o, rfl⟩ := pv
      rw [show x.cps.size = x.cps.toList.length by simp, List.take_length] at pa
      have hw : wnum x = true := by rw [hall]; exact List.all_eq_true.mpr fun c hc => decide_eq_true (pa c hc)
      have e : lnum x = ((PySem.NumText.digitsVal x.cps.toList : Nat) : Int) := by unfold lnum numOf natOf; rw [if_pos hw]; rfl
      rw [e] at q
      have h9' := (wnum_digits hw).2.2
      conv => whnf
      exact intOfI (PySem.intText_digits (wnum_digits hw).1 (wnum_digits hw).2.1 (by omega)) (by omega) q
seal spLNum
/-- a part read: a deed, or a refusal -/
def resO (fl : Int) (n : Nat) : Option Dd → Dd ⊕ Du
  | none => .inr .deed
  | some d => match due fl n d with
    | .good => .inl d
    | u => .inr u
theorem resO_go {fl : Int} {n : Nat} {d : Dd} (h : due fl n d = .good) : resO fl n (some d) = .inl d := by unfold resO; simp only; rw [h]
theorem resO_no {fl : Int} {n : Nat} {d : Dd} (h : due fl n d ≠ .good) : resO fl n (some d) = .inr (due fl n d) := by
  have z : ∀ u : Du, u ≠ .good → (match u with | .good => (Sum.inl d : Dd ⊕ Du) | u => .inr u) = .inr u := by
    intro u hu
    cases u <;> first | rfl | exact absurd rfl hu
  exact z _ h
def PR (H : Hp) (r : Addr) : Dd ⊕ Du → Prop
  | .inl d => ∃ a, H r = some (.tup [.str tGood, .ref a]) ∧ DdAt H a d
  | .inr u => H r = some (.tup u.v) ∧ u ≠ .good
def spCRead (K : PySem.W.Frag) : Sp := fun vs H Q _ => ∃ l a b c rs h fl n tg, vs = [.ref l, .ref h, .int tg] ∧ SqL K H l (.str a :: .str b :: .str c :: rs) ∧ rs.length ≤ 1 ∧ TX b ∧ TX c ∧ HsAt K H h fl n ∧ ∀ r H', Same H H' → PR H' r (resO fl n ((numOf b).bind fun s => (numOf c).map fun g => Dd.come tg s g (decide (rs.length = 1)))) → Q (.ref r) H'
theorem creadI {H : Hp} {l h : Addr} {a b c : Str} {rs : List V} {fl tg : Int} {n : Nat} {Q : VK} {E : XK} (h1 : SqL K H l (.str a :: .str b :: .str c :: rs)) (h2 : rs.length ≤ 1) (h3 : TX b) (h4 : TX c) (h5 : HsAt K H h fl n) (g : ∀ r H', Same H H' → PR H' r (resO fl n ((numOf b).bind fun s => (numOf c).map fun g => Dd.come tg s g (decide (rs.length = 1)))) → Q (.ref r) H') : spCRead K [.ref l, .ref h, .int tg] H Q E := ⟨l, a, b, c, rs, h, fl, n, tg, rfl, h1, h2, h3, h4, h5, g⟩
theorem ok_cread (F : Fun K "_law_come_read" "_law_come_read" sLComeRead f fd) (m_len : mg "len" = none) (c_law_number : Cal P w K mg base 1 "_law_number" ["_law_word"] spLNum) : FnOk P w K mg base CX0 2 f fd ["_law_words", "_law_house_here", "_law_tag_here"] (spCRead K) := by
  refine F.ok scLComeRead (fun vs H Q E h => ?_) (fun cdv A outer s H vs Q E hr h => ?_)
  · obtain ⟨l, a, b, c, rs, h, fl, n, tg, rfl, _⟩ := h
    rfl
  obtain ⟨l, a, b, c, rs, h, fl, n, tg, rfl, hL, hrs, hb, hc, ⟨p, c0, so, ls, hh, hp, hl, f2, f8, n1, n3⟩, q⟩ := h
  have fin : ∀ {x : Str} {i : Int} (u : Du), resO fl n ((numOf b).bind fun s => (numOf c).map fun g => Dd.come tg s g (decide (rs.length = 1))) = .inr u → u ≠ .good → u.v = [.str x, .int i] → ∀ {H'}, Same H H' → mkT [.str x, .int i] H' Q := by
    intro x i u e ne ev H' sm
    exact tupI (szN (by show 2 ≤ 1000000; decide)) fun r H2 s2 n2 e3 => q r H2 (sm.trans s2) (by rw [e]; exact ⟨by rw [ev]; exact e3, ne⟩)
  refine ⟨_, (pss_cons (ps_set (i := 3) scLComeRead.nd rfl (Or.inl rfl) (pe_fnP c_law_number hr (by decide) rfl (pa_c (pe_ix (w_ix (K := K) rfl) (wv 0) pe_int (fun _ _ => rfl)) pa_nil))) (pss_cons (ps_set (i := 4) scLComeRead.nd rfl (Or.inl rfl) (pe_fnP c_law_number hr (by decide) rfl (pa_c (pe_ix (w_ix (K := K) rfl) (wv 0) pe_int (fun _ _ => rfl)) pa_nil))) (pss_cons (ws_if (PW.pt (ww_or (wt_cmp w_lt (wv 3) pe_int (nomark _)) (pw_or1 (wt_cmp w_lt (wv 4) pe_int (nomark _))))) (pss_one (ps_ret (we_tup (pa_c pe_str (pa_c pe_int pa_nil))))) pss_nil) (pss_cons (ws_for PassesOwn.never rfl (wi_seq (K := K) rfl (we_lst (pa_c (wv 3) (pa_c (wv 4) pa_nil)))) (pg_name (i := 5) scLComeRead.nd rfl (Or.inl rfl)) (pss_one (ws_if (wt_cmp w_ge (wv 5) (pe_ix (w_ix (K := K) rfl) (wv 1) pe_int (fun _ _ => rfl)) (nomark _)) (pss_one (ps_ret (we_tup (pa_c pe_str (pa_c (wv 5) pa_nil))))) pss_nil))) (pss_cons (ws_if (wt_cmp (w_eqA (K := K) rfl hr) (wv 3) (wv 4) (nomark _)) (pss_one (ps_ret (we_tup (pa_c pe_str (pa_c pe_int pa_nil))))) pss_nil) (pss_one (ps_ret (we_tup (pa_c pe_str (pa_c (we_tup (pa_c pe_str (pa_c (wv 2) (pa_c (wv 3) (pa_c (wv 4) (pa_c (pe_cmpR (w_eqA (K := K) rfl hr) (pe_callBP (w_len (K := K) rfl) rfl m_len PySem.boot_len (pa_c (wv 0) pa_nil)) pe_int (nomark _)) pa_nil)))))) pa_nil)))))))))), ?_⟩
  conv => whnf
  refine seqAtL hL (v := .str b) (atI_nat (j := 1) rfl) ?_
  conv => whnf
  refine lnumI hb ?_
  conv => whnf
  refine seqAtL hL (v := .str c) (atI_nat (j := 2) rfl) ?_
  conv => whnf
  refine lnumI hc ?_
  conv => whnf
  refine ifD (fun z => ?_) (fun z => ?_)
  · conv => whnf
    refine ifB_t rfl ?_
    conv => whnf
    exact fin .deed (by rw [lnum_neg.mp z]; rfl) (fun z => by cases z) rfl (.refl _)
  have hs := lnum_some z
  conv => whnf
  refine ifD (fun z2 => ?_) (fun z2 => ?_)
  · conv => whnf
    exact fin .deed (by rw [hs, lnum_neg.mp z2]; rfl) (fun z => by cases z) rfl (.refl _)
  have hg := lnum_some z2
  have z : ¬ lnum b < 0 := z
  have z2 : ¬ lnum c < 0 := z2
  have ebind : ((numOf b).bind fun s => (numOf c).map fun g => Dd.come tg s g (decide (rs.length = 1))) = some (.come tg (lnum b) (lnum c) (decide (rs.length = 1))) := by rw [hs, hg]; rfl
  rw [ebind] at q fin
  clear ebind
  generalize lnum b = st at hs q fin z
  generalize lnum c = gl at hg q fin z2
  generalize hk : decide (rs.length = 1) = k at q fin
  have nofit : ∀ {u : Du}, due fl n (.come tg st gl k) = u → u ≠ .good → resO fl n (some (.come tg st gl k)) = .inr u := fun {u} e ne => by rw [resO_no (by rw [e]; exact ne), e]
  conv => whnf
  refine lstI (szN (by show 2 ≤ 1000000; decide)) fun l1 H1 s1 n1' e1 => ?_
  conv => whnf
  refine itSeqL (SqL.of e1) ?_
  refine forW_list (xs := [.int st, .int gl]) (fun i σ H' => H' = H1 ∧ (1 ≤ i → ¬ (fl ≤ st)) ∧ (2 ≤ i → ¬ (fl ≤ gl)) ∧ ∃ o, σ = [some (.ref l), some (.ref h), some (.int tg), some (.int st), some (.int gl), o]) ⟨rfl, fun z => absurd z (by decide), fun z => absurd z (by decide), _, rfl⟩ (fun i σ H' _ pv => by rw [pv.1]; exact SqL.of e1) (fun i y σ H' hy pv => ?_) (fun σ H' pv => ?_)
  · obtain ⟨rfl, p1, p2, o, rfl⟩ := pv
    have hhs := s1.seqT hh
    match i, hy with
    | 0, hy =>
      cases hy
      by_cases y1 : fl ≤ st
      · walk_at "l3go"
        exact fin (.floor st) (nofit (if_pos (.inr y1)) fun z => by cases z) (fun z => by cases z) rfl s1
      · walk_at "l3go"
        exact ⟨rfl, fun _ => y1, fun z => absurd z (by decide), _, rfl⟩
    | 1, hy =>
      cases hy
      have ps := p1 (by decide)
      by_cases y1 : fl ≤ gl
      · walk_at "l3go"
        exact fin (.floor gl) (nofit ((if_neg (by omega)).trans (if_pos (.inr y1))) fun z => by cases z) (fun z => by cases z) rfl s1
      · walk_at "l3go"
        exact ⟨rfl, fun _ => ps, fun _ => y1, _, rfl⟩
    | n + 2, hy => cases hy
  obtain ⟨rfl, p1, p2, o, rfl⟩ := pv
  have ps := p1 (by show 1 ≤ 2; decide)
  have pg := p2 (by show 2 ≤ 2; decide)
  by_cases y1 : st = gl
  · walk_at "l3go"
    exact fin .ride (nofit ((if_neg (by omega)).trans ((if_neg (by omega)).trans (if_pos y1))) fun z => by cases z) (fun z => by cases z) rfl s1
  have gd : due fl n (.come tg st gl k) = .good := (if_neg (by omega)).trans ((if_neg (by omega)).trans (if_neg y1))
  walk_at "l3go"
  have hlen : decide (((V.str a :: V.str b :: V.str c :: rs).length : Int) = 4) = k := by
    rw [← hk]
    refine decide_eq_decide.mpr ?_
    simp only [List.length_cons]
    omega
  rw [hlen]
  refine tupI (szN (by show 5 ≤ 1000000; decide)) fun r2 H2 s2 n2 e2 => ?_
  conv => whnf
  refine tupI (szN (by show 2 ≤ 1000000; decide)) fun r3 H3 s3 n3 e3 => ?_
  exact q r3 H3 (s1.trans (s2.trans s3)) (by rw [resO_go gd]; exact ⟨r2, e3, s3 _ _ e2, trivial⟩)
seal spCRead
def spPRead (K : PySem.W.Frag) : Sp := fun vs H Q _ => ∃ p h fl n tg, vs = [.str p, .ref h, .int tg] ∧ TX p ∧ HsAt K H h fl n ∧ ∀ r H', Same H H' → PR H' r (resO fl n (rdD p tg)) → Q (.ref r) H'
theorem preadI {H : Hp} {h : Addr} {p : Str} {fl tg : Int} {n : Nat} {Q : VK} {E : XK} (h1 : TX p) (h5 : HsAt K H h fl n) (g : ∀ r H', Same H H' → PR H' r (resO fl n (rdD p tg)) → Q (.ref r) H') : spPRead K [.str p, .ref h, .int tg] H Q E := ⟨p, h, fl, n, tg, rfl, h1, h5, g⟩
theorem ok_pread (F : Fun K "_law_part_read" "_law_part_read" sLPartRead f fd) (m_len : mg "len" = none) (c_law_number : Cal P w K mg base 1 "_law_number" ["_law_word"] spLNum) (c_law_come_read : Cal P w K mg base 2 "_law_come_read" ["_law_words", "_law_house_here", "_law_tag_here"] (spCRead K)) : FnOk P w K mg base CX0 3 f fd ["_law_part", "_law_house_here", "_law_tag_here"] (spPRead K) := by
  refine F.ok scLPartRead (fun vs H Q E h => ?_) (fun cdv A outer s H vs Q E hr h => ?_)
  · obtain ⟨p, h, fl, n, tg, rfl, _⟩ := h
    rfl
  obtain ⟨p, h, fl, n, tg, rfl, hp, hH, q⟩ := h
  have hH0 := hH
  obtain ⟨ap, c0, so, ls, hh, hpl, hl, f2, f8, n1', n3'⟩ := hH
  have hpll : (ls.length : Int) = n := by rw [hl]
  have lfD : ∀ a : Str, ([Str.ofString "block", Str.ofString "stick", Str.ofString "free", Str.ofString "goods", Str.ofString "back"].map D.str).any (fun d => eqD d (.str a)) = decide (isLf a) := fun a => by rw [inD_strs]; exact decide_eq_decide.mpr (by unfold isLf; simp)
  have inLf : ∀ {a : Str} {kl : Addr} {H' : Hp} {Q' : VK}, H' kl = some (.lst [.str (Str.ofString "block"), .str (Str.ofString "stick"), .str (Str.ofString "free"), .str (Str.ofString "goods"), .str (Str.ofString "back")]) → Q' (.bl (decide (isLf a))) H' → seqInD K (.str a) kl H' Q' := fun {a kl H' Q'} e g => seqInDL (e := .str a) (SqL.of e) (den_strs [Str.ofString "block", Str.ofString "stick", Str.ofString "free", Str.ofString "goods", Str.ofString "back"]) (.str _) (fun d hd => by obtain ⟨y, _, rfl⟩ := List.mem_map.mp hd; simp [dep]) (by rw [lfD]; exact g)
  have bad : ∀ (H' : Hp), Same H H' → rdD p tg = none → mkT [.str tDeed, .int 0] H' Q := fun H' sm e => tupI (szN (by show 2 ≤ 1000000; decide)) fun r H2 s2 n2 e3 => q r H2 (sm.trans s2) (by rw [e]; exact ⟨e3, fun z => by cases z⟩)
  refine ⟨_, (pss_cons (ps_set (i := 3) scLPartRead.nd rfl (Or.inl rfl) (we_bm (K := K) rfl PySem.F.plainAttrs_str PySem.F.slot_str_split PySem.F.type_str_split w_split (wv 0) (pa_c pe_str pa_nil))) (pss_cons (ws_if (PW.pt (ww_or (wt_cmp (w_eqA (K := K) rfl hr) (wv 0) pe_str (nomark _)) (pw_or1 (wt_cmp (w_eqA (K := K) rfl hr) (wv 0) pe_str (nomark _))))) (pss_one (ps_ret (we_tup (pa_c pe_str (pa_c (we_tup (pa_c (wv 0) pa_nil)) pa_nil))))) pss_nil) (pss_cons (ws_if (PW.pt (ww_and (wt_cmp (w_inD (K := K) rfl hr) (pe_ix (w_ix (K := K) rfl) (wv 3) pe_int (fun _ _ => rfl)) (we_lst (pa_c pe_str (pa_c pe_str (pa_c pe_str (pa_c pe_str (pa_c pe_str pa_nil)))))) (by with_unfolding_all rfl)) (pw_and1 (wt_cmp (w_eqA (K := K) rfl hr) (pe_callBP (w_len (K := K) rfl) rfl m_len PySem.boot_len (pa_c (wv 3) pa_nil)) pe_int (nomark _))))) (pss_cons (ps_set (i := 4) scLPartRead.nd rfl (Or.inl rfl) (pe_fnP c_law_number hr (by decide) rfl (pa_c (pe_ix (w_ix (K := K) rfl) (wv 3) pe_int (fun _ _ => rfl)) pa_nil))) (pss_cons (ws_if (wt_cmp w_lt (wv 4) pe_int (nomark _)) (pss_one (ps_ret (we_tup (pa_c pe_str (pa_c pe_int pa_nil))))) pss_nil) (pss_cons (ws_if (wt_cmp w_ge (wv 4) (pe_callBP (w_len (K := K) rfl) rfl m_len PySem.boot_len (pa_c (pe_ix (w_ix (K := K) rfl) (wv 1) pe_int (fun _ _ => rfl)) pa_nil)) (nomark _)) (pss_one (ps_ret (we_tup (pa_c pe_str (pa_c (wv 4) pa_nil))))) pss_nil) (pss_one (ps_ret (we_tup (pa_c pe_str (pa_c (we_tup (pa_c (pe_ix (w_ix (K := K) rfl) (wv 3) pe_int (fun _ _ => rfl)) (pa_c (wv 4) pa_nil))) pa_nil)))))))) pss_nil) (pss_cons (ws_if (PW.pt (ww_and (wt_cmp (w_eqA (K := K) rfl hr) (pe_ix (w_ix (K := K) rfl) (wv 3) pe_int (fun _ _ => rfl)) pe_str (nomark _)) (pw_and1 (PW.pt (ww_or (wt_cmp (w_eqA (K := K) rfl hr) (pe_callBP (w_len (K := K) rfl) rfl m_len PySem.boot_len (pa_c (wv 3) pa_nil)) pe_int (nomark _)) (pw_or1 (PW.pt (ww_and (wt_cmp (w_eqA (K := K) rfl hr) (pe_callBP (w_len (K := K) rfl) rfl m_len PySem.boot_len (pa_c (wv 3) pa_nil)) pe_int (nomark _)) (pw_and1 (wt_cmp (w_eqA (K := K) rfl hr) (pe_ix (w_ix (K := K) rfl) (wv 3) pe_int (fun _ _ => rfl)) pe_str (nomark _))))))))))) (pss_one (ps_ret (pe_fnP c_law_come_read hr (by decide) rfl (pa_c (wv 3) (pa_c (wv 1) (pa_c (wv 2) pa_nil)))))) pss_nil) (pss_one (ps_ret (we_tup (pa_c pe_str (pa_c pe_int pa_nil))))))))), ?_⟩
  conv => whnf
  refine ⟨rfl, ?_⟩
  conv => whnf
  refine ⟨⟨rfl, szN (by have := hp.1; omega)⟩, fun l1 n1 => ?_⟩
  have hw : ∀ x ∈ wds p, TX x := fun x hx => hp.part hx
  have hl1 : 1 ≤ (wds p).length := split_len1
  have hsg : isSg p → wds p = [p] := sg_wds
  generalize hH1 : upd H l1 _ = H1
  have s1 : Same H H1 := by rw [← hH1]; exact .upd n1
  have e1 : H1 l1 = some (.lst ((wds p).map V.str)) := by rw [← hH1]; exact upd_same
  clear hH1
  by_cases hs : isSg p
  · have rd : rdD p tg = some (.sg p) := by unfold rdD; rw [hsg hs]; exact if_pos hs
    rw [rd, resO_go rfl] at q
    have fin : ∀ {H'}, Same H H' → mkT [.str p] H' (fun v H2 => mkT [.str tGood, v] H2 Q) := fun {H'} sm => tupI (szN (by show 1 ≤ 1000000; decide)) fun r2 H2 s2 n2 e2 => tupI (szN (by show 2 ≤ 1000000; decide)) fun r3 H3 s3 n3 e3 => q r3 H3 (sm.trans (s2.trans s3)) ⟨r2, e3, s3 _ _ e2, hs⟩
    rcases hs with hs | hs
    · conv => whnf
      refine ifDt hs ?_
      conv => whnf
      refine ifB_t rfl ?_
      conv => whnf
      exact fin s1
    · conv => whnf
      refine ifDf (by rw [hs]; decide +kernel) ?_
      conv => whnf
      refine ifDt hs ?_
      conv => whnf
      exact fin s1
  conv => whnf
  refine ifDf (fun z => hs (.inl z)) ?_
  conv => whnf
  refine ifDf (fun z => hs (.inr z)) ?_
  conv => whnf
  unfold rdD at q bad
  revert q bad hw hl1 e1
  generalize wds p = ws
  intro q bad hw hl1 e1
  match ws, q, bad, hw, hl1, e1 with
  | [], q, bad, hw, hl1, e1 => exact absurd hl1 (by decide)
  | [a], q, bad, hw, hl1, e1 =>
    have e1 : H1 l1 = some (.lst [.str a]) := e1
    walk_at "l3go"
    refine lstI (szN (by show 5 ≤ 1000000; decide)) fun l2 H2 s2 n2 e2 => ?_
    conv => whnf
    refine inLf e2 ?_
    conv => whnf
    refine ifD (fun c2 => ?_) (fun c2 => ?_)
    · walk_at "l3go"; walk_at "l3gr"; walk_at "l3go"
      refine ifDf (lf_come c2) ?_
      walk_at "l3go"
      exact bad _ (s1.trans s2) (if_neg hs)
    · walk_at "l3go"
      refine ifD (fun c1 => ?_) (fun c1 => ?_)
      · walk_at "l3go"; walk_at "l3gr"; walk_at "l3go"; walk_at "l3gr"; walk_at "l3go"
        exact bad _ (s1.trans s2) (if_neg hs)
      · walk_at "l3go"
        exact bad _ (s1.trans s2) (if_neg hs)
  | [a, b], q, bad, hw, hl1, e1 =>
    have e1 : H1 l1 = some (.lst [.str a, .str b]) := e1
    have hb : TX b := hw b (.tail _ (.head _))
    walk_at "l3go"
    refine lstI (szN (by show 5 ≤ 1000000; decide)) fun l2 H2 s2 n2 e2 => ?_
    conv => whnf
    refine inLf e2 ?_
    conv => whnf
    refine ifD (fun c2 => ?_) (fun c2 => ?_)
    · have erd : ∀ o, numOf b = o → (if isLf a then (numOf b).map (Dd.lf a) else none) = o.map (Dd.lf a) := fun o e => by rw [if_pos c2, e]
      walk_at "l3go"; walk_at "l3gr"; walk_at "l3go"
      refine lnumI hb ?_
      conv => whnf
      refine ifD (fun z => ?_) (fun z => ?_)
      · conv => whnf
        exact bad _ (s1.trans s2) (erd none (lnum_neg.mp z))
      have hn := lnum_some z
      have z : ¬ lnum b < 0 := z
      have q' : ∀ r H', Same H H' → PR H' r (resO fl n (some (.lf a (lnum b)))) → Q (.ref r) H' := fun r H' sm pr => q r H' sm (by show PR H' r (resO fl n (if isLf a then (numOf b).map (Dd.lf a) else none)); rw [erd _ hn]; exact pr)
      generalize lnum b = i at hn z q'
      have hh2 := (s1.trans s2).seqT hh
      have hpl2 := (s1.trans s2).seqT hpl
      by_cases y : (n : Int) ≤ i
      · walk_at "l3go"
        have du : due fl n (.lf a i) = .lift i := if_pos (.inr y)
        exact tupI (szN (by show 2 ≤ 1000000; decide)) fun r H3 s3 n3 e3 => q' r H3 (s1.trans (s2.trans s3)) (by rw [resO_no (by rw [du]; exact fun z => by cases z), du]; exact ⟨e3, fun z => by cases z⟩)
      · have gd : due fl n (.lf a i) = .good := if_neg (by omega)
        walk_at "l3go"
        refine tupI (szN (by show 2 ≤ 1000000; decide)) fun r3 H3 s3 n3 e3 => ?_
        conv => whnf
        exact tupI (szN (by show 2 ≤ 1000000; decide)) fun r4 H4 s4 n4 e4 => q' r4 H4 (s1.trans (s2.trans (s3.trans s4))) (by rw [resO_go gd]; exact ⟨r3, e4, s4 _ _ e3, c2⟩)
    · walk_at "l3go"
      refine ifD (fun c1 => ?_) (fun c1 => ?_)
      · walk_at "l3go"; walk_at "l3gr"; walk_at "l3go"; walk_at "l3gr"; walk_at "l3go"
        exact bad _ (s1.trans s2) (if_neg c2)
      · walk_at "l3go"
        exact bad _ (s1.trans s2) (if_neg c2)
  | [a, b, c], q, bad, hw, hl1, e1 =>
    have e1 : H1 l1 = some (.lst [.str a, .str b, .str c]) := e1
    have hb : TX b := hw b (.tail _ (.head _))
    have hc : TX c := hw c (.tail _ (.tail _ (.head _)))
    walk_at "l3go"
    refine lstI (szN (by show 5 ≤ 1000000; decide)) fun l2 H2 s2 n2 e2 => ?_
    conv => whnf
    refine inLf e2 ?_
    conv => whnf
    refine ifD (fun c2 => ?_) (fun c2 => ?_)
    · have c1 := lf_come c2
      walk_at "l3go"; walk_at "l3gr"; walk_at "l3go"
      exact bad _ (s1.trans s2) (if_neg c1)
    · walk_at "l3go"
      refine ifD (fun c1 => ?_) (fun c1 => ?_)
      · walk_at "l3go"; walk_at "l3gr"; walk_at "l3go"
        refine creadI (rs := []) (SqL.of (s2 _ _ e1)) (by decide) hb hc (hH0.same (s1.trans s2)) fun r H3 s3 pr => ?_
        exact q r H3 (s1.trans (s2.trans s3)) (by show PR H3 r (resO fl n (if a = tCome then (numOf b).bind fun s => (numOf c).map fun g => Dd.come tg s g false else none)); rw [if_pos c1]; exact pr)
      · walk_at "l3go"
        exact bad _ (s1.trans s2) (if_neg c1)
  | [a, b, c, d], q, bad, hw, hl1, e1 =>
    have e1 : H1 l1 = some (.lst [.str a, .str b, .str c, .str d]) := e1
    have hb : TX b := hw b (.tail _ (.head _))
    have hc : TX c := hw c (.tail _ (.tail _ (.head _)))
    walk_at "l3go"
    refine lstI (szN (by show 5 ≤ 1000000; decide)) fun l2 H2 s2 n2 e2 => ?_
    conv => whnf
    refine inLf e2 ?_
    conv => whnf
    refine ifD (fun c2 => ?_) (fun c2 => ?_)
    · have c1 := lf_come c2
      walk_at "l3go"; walk_at "l3gr"; walk_at "l3go"
      exact bad _ (s1.trans s2) (if_neg fun z => c1 z.1)
    · walk_at "l3go"
      refine ifD (fun c1 => ?_) (fun c1 => ?_)
      · walk_at "l3go"; walk_at "l3gr"; walk_at "l3go"; walk_at "l3gr"; walk_at "l3go"
        refine ifD (fun c4 => ?_) (fun c4 => ?_)
        · walk_at "l3go"
          refine creadI (rs := [.str d]) (SqL.of (s2 _ _ e1)) (Nat.le_refl 1) hb hc (hH0.same (s1.trans s2)) fun r H3 s3 pr => ?_
          exact q r H3 (s1.trans (s2.trans s3)) (by show PR H3 r (resO fl n (if a = tCome ∧ d = tKey then (numOf b).bind fun s => (numOf c).map fun g => Dd.come tg s g true else none)); rw [if_pos ⟨c1, c4⟩]; exact pr)
        · walk_at "l3go"
          exact bad _ (s1.trans s2) (if_neg fun z => c4 z.2)
      · walk_at "l3go"
        exact bad _ (s1.trans s2) (if_neg fun z => c1 z.1)
  | a :: b :: c :: d :: e :: r, q, bad, hw, hl1, e1 =>
    have ln : (V.str a :: V.str b :: V.str c :: V.str d :: V.str e :: r.map V.str).length = r.length + 5 := by simp
    have e1m := e1
    have e1 : H1 l1 = some (.lst (V.str a :: V.str b :: V.str c :: V.str d :: V.str e :: r.map V.str)) := e1
    conv => whnf
    refine seqAtL (SqL.of e1) (v := .str a) (atI_nat (j := 0) rfl) ?_
    conv => whnf
    refine lstI (szN (by show 5 ≤ 1000000; decide)) fun l2 H2 s2 n2 e2 => ?_
    conv => whnf
    refine inLf e2 ?_
    conv => whnf
    refine ifD (fun c2 => ?_) (fun c2 => ?_)
    · have c1 := lf_come c2
      conv => whnf
      refine seqLenL (SqL.of (s2 _ _ e1)) ?_
      conv => whnf
      refine ifDf (by rw [ln]; omega) ?_
      conv => whnf
      refine seqAtL (SqL.of (s2 _ _ e1)) (v := .str a) (atI_nat (j := 0) rfl) ?_
      conv => whnf
      refine ifDf c1 ?_
      walk_at "l3go"
      exact bad _ (s1.trans s2) rfl
    · conv => whnf
      refine ifB_f rfl ?_
      conv => whnf
      refine seqAtL (SqL.of (s2 _ _ e1)) (v := .str a) (atI_nat (j := 0) rfl) ?_
      conv => whnf
      refine ifD (fun c1 => ?_) (fun c1 => ?_)
      · conv => whnf
        refine seqLenL (SqL.of (s2 _ _ e1)) ?_
        conv => whnf
        refine ifDf (by rw [ln]; omega) ?_
        conv => whnf
        refine seqLenL (SqL.of (s2 _ _ e1)) ?_
        conv => whnf
        refine ifDf (by rw [ln]; omega) ?_
        walk_at "l3go"
        exact bad _ (s1.trans s2) rfl
      · walk_at "l3go"
        exact bad _ (s1.trans s2) rfl
seal spPRead
/-- a turn read: the deeds in a list of its own, or a refusal -/
def TR (H0 H : Hp) (r : Addr) : List Dd ⊕ Du → Prop
  | .inl ds => ∃ l xs, H r = some (.tup [.str tGood, .ref l]) ∧ H l = some (.lst xs) ∧ DsAt H xs ds ∧ H0 l = none
  | .inr u => H r = some (.tup u.v) ∧ u ≠ .good
theorem bad_name {u : Du} (h : u ≠ .good) : ∃ x i, u.v = [V.str x, .int i] ∧ x ≠ tGood := by
  cases u with
  | floor i => exact ⟨_, _, rfl, by decide +kernel⟩
  | lift i => exact ⟨_, _, rfl, by decide +kernel⟩
  | ride => exact ⟨_, _, rfl, by decide +kernel⟩
  | deed => exact ⟨_, _, rfl, by decide +kernel⟩
  | good => exact absurd rfl h
theorem come_is {d : Dd} (h : d.ok) : ∃ x vs, d.v = V.str x :: vs ∧ ∀ t, d.next t = t + (if decide (x = tCome) = true then 1 else 0) := by
  cases d with
  | come t s g k => exact ⟨_, _, rfl, fun t => rfl⟩
  | lf x i => exact ⟨x, _, rfl, fun t => by rw [decide_eq_false (lf_come h)]; exact (Int.add_zero t).symm⟩
  | sg x => exact ⟨x, _, rfl, fun t => by rw [decide_eq_false (sg_come h)]; exact (Int.add_zero t).symm⟩
def spLTurn (K : PySem.W.Frag) : Sp := fun vs H Q _ => ∃ x h fl n t, vs = [.str x, .ref h, .int t] ∧ TX x ∧ HsAt K H h fl n ∧ ∀ r H', Same H H' → TR H H' r (rdS fl n x t) → Q (.ref r) H'
theorem lturnI {H : Hp} {h : Addr} {fl t : Int} {n : Nat} {x : Str} {Q : VK} {E : XK} (h1 : TX x) (h2 : HsAt K H h fl n) (g : ∀ r H', Same H H' → TR H H' r (rdS fl n x t) → Q (.ref r) H') : spLTurn K [.str x, .ref h, .int t] H Q E := ⟨x, h, fl, n, t, rfl, h1, h2, g⟩
theorem ok_lturn (F : Fun K "_law_turn_read" "_law_turn_read" sLTurnRead f fd) (m_int : mg "int" = none) (c_law_part_read : Cal P w K mg base 3 "_law_part_read" ["_law_part", "_law_house_here", "_law_tag_here"] (spPRead K)) : FnOk P w K mg base CX0 4 f fd ["_law_text", "_law_house_here", "_law_first"] (spLTurn K) := by
  refine F.ok scLTurnRead (fun vs H Q E h => ?_) (fun cdv A outer s H vs Q E hr h => ?_)
  · obtain ⟨x, h, fl, n, t, rfl, _⟩ := h
    rfl
  obtain ⟨x, h, fl, n, t, rfl, hx, hh, q⟩ := h
  refine ⟨_, (pss_cons (ps_set (i := 3) scLTurnRead.nd rfl (Or.inl rfl) (we_lst pa_nil)) (pss_cons (ws_if (wt_cmp (w_eqA (K := K) rfl hr) (wv 0) pe_str (nomark _)) (pss_one (ps_ret (we_tup (pa_c pe_str (pa_c (wv 3) pa_nil))))) pss_nil) (pss_cons (ws_for PassesOwn.never rfl (wi_seq (K := K) rfl (we_bm (K := K) rfl PySem.F.plainAttrs_str PySem.F.slot_str_split PySem.F.type_str_split w_split (wv 0) (pa_c pe_str pa_nil))) (pg_name (i := 4) scLTurnRead.nd rfl (Or.inl rfl)) (pss_cons (ps_set (i := 5) scLTurnRead.nd rfl (Or.inl rfl) (pe_fnP c_law_part_read hr (by decide) rfl (pa_c (wv 4) (pa_c (wv 1) (pa_c (wv 2) pa_nil))))) (pss_cons (ws_if (wt_cmp (w_neA (K := K) rfl hr) (pe_ix (w_ix (K := K) rfl) (wv 5) pe_int (fun _ _ => rfl)) pe_str (nomark _)) (pss_one (ps_ret (wv 5))) pss_nil) (pss_cons (ps_expr (we_bm (K := K) rfl PySem.F.plainAttrs_list PySem.F.slot_list_append PySem.F.type_list_append w_append (wv 3) (pa_c (pe_ix (w_ix (K := K) rfl) (wv 5) pe_int (fun _ _ => rfl)) pa_nil))) (pss_one (ps_set (i := 2) scLTurnRead.nd rfl (Or.inl rfl) (pe_op (w_addY (K := K) rfl) (wv 2) (pe_callTyP w_int rfl m_int boot_int (pa_c (pe_cmpR (w_eqA (K := K) rfl hr) (pe_ix (w_ix (K := K) rfl) (pe_ix (w_ix (K := K) rfl) (wv 5) pe_int (fun _ _ => rfl)) pe_int (fun _ _ => rfl)) pe_str (nomark _)) pa_nil))))))))) (pss_one (ps_ret (we_tup (pa_c pe_str (pa_c (wv 3) pa_nil)))))))), ?_⟩
  conv => whnf
  refine lstI (szN (by show 0 ≤ 1000000; decide)) fun l H1 s1 n1 e1 => ?_
  conv => whnf
  by_cases hx0 : x = Str.ofString ""
  · have hns : rdS fl n x t = .inl [] := if_pos hx0
    rw [hns] at q
    refine ifDt hx0 ?_
    conv => whnf
    exact tupI (szN (by show 2 ≤ 1000000; decide)) fun r H2 s2 n2 e2 => q r H2 (s1.trans s2) ⟨l, [], e2, s2 _ _ e1, .nil, n1⟩
  · have hns : rdS fl n x t = rdT fl n (cms x) t := if_neg hx0
    rw [hns] at q
    refine ifDf hx0 ?_
    conv => whnf
    refine ⟨rfl, ?_⟩
    conv => whnf
    refine ⟨⟨rfl, szN (by have := hx.1; omega)⟩, fun pl np => ?_⟩
    generalize hH2 : upd H1 pl _ = H2
    have s2 : Same H1 H2 := by rw [← hH2]; exact .upd np
    have e2 : H2 pl = some (.lst ((cms x).map V.str)) := by rw [← hH2]; exact upd_same
    clear hH2
    have nl : pl ≠ l := fun z => by rw [z] at np; rw [np] at e1; cases e1
    have hps : ∀ p ∈ cms x, TX p := fun p hp => hx.part hp
    have hpl : (cms x).length ≤ 5002 := split_len2 hx
    clear hns
    generalize cms x = ps at q e2 hps hpl
    conv => whnf
    refine itSeqL (SqL.of e2) ?_
    refine forW_list (xs := ps.map V.str) (fun i σ HX => Same H HX ∧ HX pl = some (.lst (ps.map V.str)) ∧ ∃ xs ds tg o1 o2, HX l = some (.lst xs) ∧ DsAt HX xs ds ∧ xs.length ≤ i ∧ rdT fl n ps t = pre ds (rdT fl n (ps.drop i) tg) ∧ σ = [some (.str x), some (.ref h), some (.int tg), some (.ref l), o1, o2]) ⟨s1.trans s2, e2, [], [], t, none, none, s2 _ _ e1, .nil, Nat.le_refl _, by rw [List.drop_zero, pre_nil], rfl⟩ (fun i σ HX _ pv => SqL.of pv.2.1) (fun i y σ HX hy pv => ?_) (fun σ HX pv => ?_)
    · obtain ⟨sx, ep, xs, ds, tg, o1, o2, el, hds, hxl, hrd, rfl⟩ := pv
      obtain ⟨p, hp, rfl⟩ : ∃ p, ps[i]? = some p ∧ y = .str p := by
        rw [List.getElem?_map] at hy
        obtain ⟨p, hp, e⟩ := Option.map_eq_some_iff.mp hy
        exact ⟨p, hp, e.symm⟩
      have hil : i < ps.length := (List.getElem?_eq_some_iff.mp hp).1
      have dr : ps.drop i = p :: ps.drop (i + 1) := by
        rw [List.drop_eq_getElem_cons hil, (List.getElem?_eq_some_iff.mp hp).2]
      rw [dr] at hrd
      conv => whnf
      refine preadI (hps p (List.mem_of_getElem? hp)) (hh.same sx) fun r H3 s3 pr => ?_
      have wrong : ∀ u : Du, u ≠ .good → H3 r = some (.tup u.v) → rdT fl n ps t = .inr u → TR H H3 r (rdT fl n ps t) := fun u ne er e => by rw [e]; exact ⟨er, ne⟩
      have badW : ∀ u : Du, u ≠ .good → H3 r = some (.tup u.v) → rdT fl n ps t = .inr u → Q (.ref r) H3 := fun u ne er e => q r H3 (sx.trans s3) (wrong u ne er e)
      have hcase : (∃ u : Du, u ≠ .good ∧ H3 r = some (.tup u.v) ∧ rdT fl n ps t = .inr u) ∨ ∃ d a, rdD p tg = some d ∧ due fl n d = .good ∧ H3 r = some (.tup [.str tGood, .ref a]) ∧ DdAt H3 a d := by
        cases hd : rdD p tg with
        | none =>
          rw [hd] at pr
          exact .inl ⟨.deed, pr.2, pr.1, by rw [hrd, rdT_bad hd]; rfl⟩
        | some d =>
          rw [hd] at pr
          by_cases gd : due fl n d = .good
          · rw [resO_go gd] at pr
            obtain ⟨a, ea, da⟩ := pr
            exact .inr ⟨d, a, rfl, gd, ea, da⟩
          · rw [resO_no gd] at pr
            exact .inl ⟨due fl n d, pr.2, pr.1, by rw [hrd, rdT_no hd gd]; rfl⟩
      rcases hcase with ⟨u, ne, er, eu⟩ | ⟨d, a, hd, gd, er, da⟩
      · obtain ⟨nm, iv, ev, hne⟩ := bad_name ne
        have er' : SqT K H3 r [.str nm, .int iv] := SqT.of (by rw [er, ev])
        conv => whnf
        refine seqAtT er' (v := .str nm) rfl ?_
        conv => whnf
        refine ifB_t (by show (!decide (nm = tGood)) = true; rw [decide_eq_false hne]; rfl) ?_
        conv => whnf
        exact badW u ne er eu
      · have er' := SqT.of (K := K) er
        conv => whnf
        refine seqAtT er' (v := .str tGood) rfl ?_
        conv => whnf
        refine ifB_f rfl ?_
        conv => whnf
        have el4 := s3 _ _ el
        refine ⟨.inl ⟨rfl, _, SqL.of el4⟩, ?_⟩
        conv => whnf
        refine seqAtT er' (v := .ref a) rfl ?_
        conv => whnf
        refine appLI el4 (szL (by omega)) ?_
        generalize hH5 : upd H3 l (.lst (xs ++ [.ref a])) = H5
        have s5 : Same H H5 := by rw [← hH5]; exact Same.updF' (sx.trans s3) n1
        have da5 : DdAt H5 a d := by rw [← hH5]; exact da.upd el4
        have ds5 : DsAt H5 xs ds := by rw [← hH5]; exact (hds.same s3).upd el4
        have el5 : H5 l = some (.lst (xs ++ [.ref a])) := by rw [← hH5]; exact upd_same
        have ep5 : H5 pl = some (.lst (ps.map V.str)) := by rw [← hH5, upd_ne nl]; exact s3 _ _ ep
        have er5 : SqT K H5 r [.str tGood, .ref a] := SqT.of (by rw [← hH5, upd_ne (fun z => by rw [z, el4] at er; cases er)]; exact er)
        clear hH5
        have ds6 : DsAt H5 (xs ++ [.ref a]) (ds ++ [d]) := Paired.app ds5 (.cons ⟨a, rfl, da5⟩ .nil)
        have hrd2 := hrd.trans (rdT_go (ps := ps.drop (i + 1)) ds hd gd)
        have hxl2 : (xs ++ [V.ref a]).length ≤ i + 1 := by simp; omega
        obtain ⟨nm, vs, ev, hnx⟩ := come_is da5.2
        have T5 : SqT K H5 a (.str nm :: vs) := SqT.of (by rw [← ev]; exact da5.1)
        rw [hnx] at hrd2
        conv => whnf
        refine seqAtT er5 (v := .ref a) rfl ?_
        conv => whnf
        refine seqAtT T5 (v := .str nm) (atI_nat (j := 0) rfl) ?_
        conv => whnf
        exact ⟨s5, ep5, _, _, _, _, _, el5, ds6, hxl2, hrd2, rfl⟩
    · obtain ⟨sx, ep, xs, ds, tg, o1, o2, el, hds, hxl, hrd, rfl⟩ := pv
      have e : rdT fl n ps t = .inl ds := by
        rw [hrd, List.length_map, List.drop_of_length_le (Nat.le_refl _)]
        show Sum.inl (ds ++ []) = _
        rw [List.append_nil]
      rw [e] at q
      conv => whnf
      exact tupI (szN (by show 2 ≤ 1000000; decide)) fun r H2 s2 n2 e2 => q r H2 (sx.trans s2) ⟨l, xs, e2, s2 _ _ el, hds.same s2, n1⟩
seal spLTurn
/-! ### a text bent -/
def spBent (K : PySem.W.Frag) : Sp := fun vs H Q _ => ∃ a ns z, vs = [.ref a, .str z] ∧ ScB K H a ns ∧ TL 1300 z ∧ ∀ x H', Same H H' → TX x → Q (.str x) H'
theorem bentI {H : Hp} {a : Addr} {ns : List Int} {z : Str} {Q : VK} {E : XK} (h1 : ScB K H a ns) (h2 : TL 1300 z) (g : ∀ x H', Same H H' → TX x → Q (.str x) H') : spBent K [.ref a, .str z] H Q E := ⟨a, ns, z, rfl, h1, h2, g⟩
theorem ok_bent (F : Fun K "_law_bent" "_law_bent" sLBent f fd) (m_len : mg "len" = none) (c_law_draw : Cal P w K mg base 2 "_law_draw" ["_law_script", "_law_k", "_law_prime", "_law_many"] (spDr K)) : FnOk P w K mg base CX0 3 f fd ["_law_script", "_law_text"] (spBent K) := by
  refine F.ok scLBent (fun vs H Q E h => ?_) (fun cdv A outer s H vs Q E hr h => ?_)
  · obtain ⟨a, ns, z, rfl, _⟩ := h
    rfl
  obtain ⟨a, ns, z, rfl, hS, hzt, q⟩ := h
  have hzl := hzt.1
  have hz : z.length ≤ sizeLine := szN (by omega)
  refine ⟨_, (pss_cons (ps_set (i := 2) scLBent.nd rfl (Or.inl rfl) (pe_fnP c_law_draw hr (by decide) rfl (pa_c (wv 0) (pa_c pe_int (pa_c pe_int (pa_c pe_int pa_nil)))))) (pss_cons (ps_set (i := 3) scLBent.nd rfl (Or.inl rfl) (pe_fnP c_law_draw hr (by decide) rfl (pa_c (wv 0) (pa_c pe_int (pa_c pe_int (pa_c (pe_op (w_addY (K := K) rfl) (pe_callBP (w_len (K := K) rfl) rfl m_len PySem.boot_len (pa_c (wv 1) pa_nil)) pe_int) pa_nil)))))) (pss_cons (ps_set (i := 4) scLBent.nd rfl (Or.inl rfl) (pe_ix (w_ix (K := K) rfl) pe_str (pe_fnP c_law_draw hr (by decide) rfl (pa_c (wv 0) (pa_c pe_int (pa_c pe_int (pa_c pe_int pa_nil))))) (fun _ _ => rfl))) (pss_cons (ws_if (wt_cmp (w_eqA (K := K) rfl hr) (wv 2) pe_int (nomark _)) (pss_one (ps_ret (pe_op (w_addY (K := K) rfl) (pe_op (w_addY (K := K) rfl) (pe_slice (w_slX (K := K) rfl) (wv 1) po_none (wo_some (wv 3))) (wv 4)) (pe_slice (w_slX (K := K) rfl) (wv 1) (wo_some (wv 3)) po_none)))) pss_nil) (pss_cons (ws_if (wt_cmp (w_eqA (K := K) rfl hr) (wv 2) pe_int (nomark _)) (pss_one (ps_ret (pe_op (w_addY (K := K) rfl) (pe_slice (w_slX (K := K) rfl) (wv 1) po_none (wo_some (wv 3))) (pe_slice (w_slX (K := K) rfl) (wv 1) (wo_some (pe_op (w_addY (K := K) rfl) (wv 3) pe_int)) po_none)))) pss_nil) (pss_cons (ws_if (wt_cmp (w_eqA (K := K) rfl hr) (wv 2) pe_int (nomark _)) (pss_one (ps_ret (pe_op (w_addY (K := K) rfl) (pe_op (w_addY (K := K) rfl) (pe_slice (w_slX (K := K) rfl) (wv 1) po_none (wo_some (wv 3))) (pe_slice (w_slX (K := K) rfl) (wv 1) (wo_some (wv 3)) (wo_some (pe_op (w_addY (K := K) rfl) (wv 3) pe_int)))) (pe_slice (w_slX (K := K) rfl) (wv 1) (wo_some (wv 3)) po_none)))) pss_nil) (pss_cons (ws_if (wt_cmp (w_eqA (K := K) rfl hr) (wv 2) pe_int (nomark _)) (pss_one (ps_ret (pe_op (w_addY (K := K) rfl) (pe_op (w_addY (K := K) rfl) (pe_slice (w_slX (K := K) rfl) (wv 1) po_none (wo_some (wv 3))) (wv 4)) (pe_slice (w_slX (K := K) rfl) (wv 1) (wo_some (pe_op (w_addY (K := K) rfl) (wv 3) pe_int)) po_none)))) pss_nil) (pss_cons (ws_if (wt_cmp (w_eqA (K := K) rfl hr) (wv 2) pe_int (nomark _)) (pss_one (ps_ret (pe_op (w_addY (K := K) rfl) (pe_op (w_addY (K := K) rfl) (pe_slice (w_slX (K := K) rfl) (wv 1) po_none (wo_some (wv 3))) (pe_ix (w_ix (K := K) rfl) (we_lst (pa_c pe_str (pa_c pe_str (pa_c pe_str (pa_c pe_str (pa_c pe_str (pa_c pe_str pa_nil))))))) (pe_op w_mod (wv 3) pe_int) (fun _ _ => rfl))) (pe_slice (w_slX (K := K) rfl) (wv 1) (wo_some (wv 3)) po_none)))) pss_nil) (pss_one (ps_ret (wv 1))))))))))), ?_⟩
  conv => whnf
  refine drI hS (by decide) (by decide) (by decide) (by decide) fun way a1 a2 => ?_
  conv => whnf
  refine ⟨hz, ?_⟩
  conv => whnf
  refine drI hS (by decide) (by decide) (by decide) (by omega) fun k b1 b2 => ?_
  conv => whnf
  refine drI hS (by decide) (by decide) (by decide) (by decide) fun sg c1 c2 => ?_
  conv => whnf
  obtain ⟨j, rfl⟩ := Int.eq_ofNat_of_zero_le c1
  obtain ⟨c, hc, c128⟩ : ∃ c, (Str.ofString "0123456789 ,;abcdefgiklmnorstuy+-_.\n").cps.toList[j]? = some c ∧ c < 128 := by
    have hL : (Str.ofString "0123456789 ,;abcdefgiklmnorstuy+-_.\n").cps.toList.length = 36 := by decide +kernel
    have hA : ∀ c ∈ (Str.ofString "0123456789 ,;abcdefgiklmnorstuy+-_.\n").cps.toList, c < 128 := by decide +kernel
    have hj : j < (Str.ofString "0123456789 ,;abcdefgiklmnorstuy+-_.\n").cps.toList.length := by rw [hL]; omega
    exact ⟨_, List.getElem?_eq_getElem hj, hA _ (List.getElem_mem hj)⟩
  refine signAtI (szN (by decide)) (atI_nat (j := j) hc) ?_
  have hsg : TL 1 (⟨#[c]⟩ : Str) := ⟨by show 1 ≤ 1; decide, fun x hx => by
    have : x = c := by simpa using hx
    rw [this]; exact c128⟩
  have t1 := hzt.to (n := k) b1
  have t2 := hzt.from (n := k) b1
  have t3 := hzt.from (n := k + 1) (by omega)
  have t4 := hzt.mid (a := k) (b := k + 1) b1 (by omega)
  have fin : ∀ {n : Nat} {x : Str}, TL n x → n ≤ 5000 → ∀ {H'}, Same H H' → Q (.str x) H' := by
    intro n x h hn H' sm
    exact q _ H' sm ⟨Nat.le_trans h.1 hn, h.2⟩
  have t4' : TL 100 (Txt.slice z (some k) (some (k + 1))) := by
    refine ⟨?_, t4.2⟩
    have c := slice_codes (x := z) (l := some k) (u := some (k + 1)) (start := min k (z.length : Int)) (stop := min (k + 1) (z.length : Int)) (by
      unfold Builtin.Str.strSliceIndices
      simp only [show (1 : Int) > 0 by decide, if_true, if_neg (show ¬ k < 0 by omega), if_neg (show ¬ k + 1 < 0 by omega)]
      congr 1 <;> omega) (by omega) (by omega) (by omega)
    rw [← len_codes, c, List.length_take]
    omega
  conv => whnf
  by_cases e0 : way = 0
  · refine ifDt e0 ?_
    conv => whnf
    refine ⟨hz, ?_⟩
    conv => whnf
    refine ⟨szN (by have := t1.1; have := hsg.1; omega), ?_⟩
    conv => whnf
    refine ⟨hz, ?_⟩
    conv => whnf
    refine ⟨szN (by have := (t1.app hsg).1; have := t2.1; omega), ?_⟩
    exact fin ((t1.app hsg).app t2) (by decide) (.refl _)
  refine ifDf e0 ?_
  conv => whnf
  by_cases e1 : way = 1
  · refine ifDt e1 ?_
    conv => whnf
    refine ⟨hz, ?_⟩
    conv => whnf
    refine ⟨hz, ?_⟩
    conv => whnf
    refine ⟨szN (by have := t1.1; have := t3.1; omega), ?_⟩
    exact fin (t1.app t3) (by decide) (.refl _)
  refine ifDf e1 ?_
  conv => whnf
  by_cases e2 : way = 2
  · refine ifDt e2 ?_
    conv => whnf
    refine ⟨hz, ?_⟩
    conv => whnf
    refine ⟨hz, ?_⟩
    conv => whnf
    refine ⟨szN (by have := t1.1; have := t4.1; omega), ?_⟩
    conv => whnf
    refine ⟨hz, ?_⟩
    conv => whnf
    refine ⟨szN (by have := (t1.app t4').1; have := t2.1; omega), ?_⟩
    exact fin ((t1.app t4').app t2) (by decide) (.refl _)
  refine ifDf e2 ?_
  conv => whnf
  by_cases e3 : way = 3
  · refine ifDt e3 ?_
    conv => whnf
    refine ⟨hz, ?_⟩
    conv => whnf
    refine ⟨szN (by have := t1.1; have := hsg.1; omega), ?_⟩
    conv => whnf
    refine ⟨hz, ?_⟩
    conv => whnf
    refine ⟨szN (by have := (t1.app hsg).1; have := t3.1; omega), ?_⟩
    exact fin ((t1.app hsg).app t3) (by decide) (.refl _)
  refine ifDf e3 ?_
  conv => whnf
  by_cases e4 : way = 4
  · refine ifDt e4 ?_
    conv => whnf
    refine ⟨hz, ?_⟩
    conv => whnf
    refine lstI (szN (by show 6 ≤ 1000000; decide)) fun l1 H1 s1 n1 e1 => ?_
    conv => whnf
    refine ⟨by decide, ?_⟩
    conv => whnf
    obtain ⟨y, ey, hy⟩ : ∃ y : Str, atI [V.str (Str.ofString "come 1 1"), .str (Str.ofString "stick 3"), .str (Str.ofString "come 0 8 key"), .str (Str.ofString "come 9 9"), .str (Str.ofString "fire 0"), .str (Str.ofString "block")] (k % 6) = some (.str y) ∧ TL 20 y := by
      rcases (show k % 6 = 0 ∨ k % 6 = 1 ∨ k % 6 = 2 ∨ k % 6 = 3 ∨ k % 6 = 4 ∨ k % 6 = 5 by omega) with z | z | z | z | z | z <;> rw [z]
      · exact ⟨_, rfl, by decide, asc_c _ (by decide +kernel)⟩
      · exact ⟨_, rfl, by decide, asc_c _ (by decide +kernel)⟩
      · exact ⟨_, rfl, by decide, asc_c _ (by decide +kernel)⟩
      · exact ⟨_, rfl, by decide, asc_c _ (by decide +kernel)⟩
      · exact ⟨_, rfl, by decide, asc_c _ (by decide +kernel)⟩
      · exact ⟨_, rfl, by decide, asc_c _ (by decide +kernel)⟩
    refine seqAtL (SqL.of e1) ey ?_
    conv => whnf
    refine ⟨szN (by have := t1.1; have := hy.1; omega), ?_⟩
    conv => whnf
    refine ⟨hz, ?_⟩
    conv => whnf
    refine ⟨szN (by have := (t1.app hy).1; have := t2.1; omega), ?_⟩
    exact fin ((t1.app hy).app t2) (by decide) s1
  refine ifDf e4 ?_
  conv => whnf
  exact fin hzt (by decide) (.refl _)
seal spBent
/-! ### what is told, held against what is due -/
def ddD (d : Dd) : D := match d with
  | .come t s g k => .tup [.str tCome, .int t, .int s, .int g, .bl k]
  | .lf x n => .tup [.str x, .int n]
  | .sg x => .tup [.str x]
theorem den_dd {H : Hp} {a : Addr} {d : Dd} (h : DdAt H a d) : Den K H (.ref a) (ddD d) := by
  have h := SqT.of (K := K) h.1
  cases d with
  | come => exact denT h (.cons (.str _) (.cons (.int _) (.cons (.int _) (.cons (.int _) (.cons (.bl _) .nil)))))
  | lf => exact denT h (.cons (.str _) (.cons (.int _) .nil))
  | sg => exact denT h (.cons (.str _) .nil)
theorem dep_dd (d : Dd) : dep (ddD d) ≤ 1 := by cases d <;> simp [ddD, dep, deps]
theorem den_ds {H : Hp} : ∀ {xs : List V} {ds : List Dd}, DsAt H xs ds → Dens K H xs (ds.map ddD)
  | _, _, .nil => .nil
  | _, _, .cons ⟨a, e, da⟩ r => .cons (by rw [e]; exact den_dd da) (den_ds r)
theorem deps_dd : ∀ ds : List Dd, deps (ds.map ddD) ≤ 1
  | [] => by simp [deps]
  | d :: ds => by have := deps_dd ds; have := dep_dd d; simp only [List.map_cons, deps]; omega
def spSame (K : PySem.W.Frag) : Sp := fun vs H Q _ => ∃ l l' xs xs' ds, vs = [.ref l, .ref l'] ∧ H l = some (.lst xs) ∧ H l' = some (.lst xs') ∧ DsAt H xs ds ∧ DsAt H xs' ds ∧ ds.length ≤ 1000000 ∧ ∀ H', Same H H' → Q (.bl true) H'
theorem sameI {H : Hp} {l l' : Addr} {xs xs' : List V} {ds : List Dd} {Q : VK} {E : XK} (h1 : H l = some (.lst xs)) (h2 : H l' = some (.lst xs')) (h3 : DsAt H xs ds) (h4 : DsAt H xs' ds) (h5 : ds.length ≤ 1000000) (g : ∀ H', Same H H' → Q (.bl true) H') : spSame K [.ref l, .ref l'] H Q E := ⟨l, l', xs, xs', ds, rfl, h1, h2, h3, h4, h5, g⟩
theorem cut_ints {d : Dd} (h : d.ok) : (∃ is : List Int, cutV d.v (some 1) (some 4) = is.map V.int) ∧ ¬ (HT.sIx d.v.length 0 (some 1) = 0 ∧ HT.sIx d.v.length d.v.length (some 4) = d.v.length) := by
  cases d with
  | come t s g k => exact ⟨⟨[t, s, g], rfl⟩, by show ¬ (HT.sIx 5 0 (some 1) = 0 ∧ HT.sIx 5 5 (some 4) = 5); decide⟩
  | lf x n => exact ⟨⟨[n], rfl⟩, by show ¬ (HT.sIx 2 0 (some 1) = 0 ∧ HT.sIx 2 2 (some 4) = 2); decide⟩
  | sg x => exact ⟨⟨[], rfl⟩, by show ¬ (HT.sIx 1 0 (some 1) = 0 ∧ HT.sIx 1 1 (some 4) = 1); decide⟩
theorem ok_same (F : Fun K "_law_same" "_law_same" sLSame f fd) (m_isinstance : mg "isinstance" = none) (m_list : mg "list" = none) (m_tuple : mg "tuple" = none) (m_bool : mg "bool" = none) (m_len : mg "len" = none) (m_range : mg "range" = none) (c_law_whole : Cal P w K mg base 1 "_law_whole" ["_law_thing"] spWhole) : FnOk P w K mg base CX0 2 f fd ["_law_told", "_law_due"] (spSame K) := by
  refine F.ok scLSame (fun vs H Q E h => ?_) (fun cdv A outer s H vs Q E hr h => ?_)
  · obtain ⟨l, l', xs, xs', ds, rfl, _⟩ := h
    rfl
  obtain ⟨l, l', xs, xs', ds, rfl, el0, el0', hd, hd', hz, q⟩ := h
  have hl := SqL.of (K := K) el0
  have hl' := SqL.of (K := K) el0'
  have x1 := hd.len
  have x2 := hd'.len
  refine ⟨_, (pss_cons (ws_if (PW.pt (ww_or (pt_not (wt_tr (K := K) rfl (pe_callBP (w_isiX (K := K) rfl) rfl m_isinstance boot_isinstance (pa_c (wv 0) (pa_c (pe_bltn (v := .ty "list") rfl m_list boot_list rfl) pa_nil))))) (pw_or1 (wt_cmp (w_neA (K := K) rfl hr) (pe_callBP (w_len (K := K) rfl) rfl m_len PySem.boot_len (pa_c (wv 0) pa_nil)) (pe_callBP (w_len (K := K) rfl) rfl m_len PySem.boot_len (pa_c (wv 1) pa_nil)) (nomark _))))) (pss_one (ps_ret pe_bl)) pss_nil) (pss_cons (ws_for PassesOwn.never rfl (wi_range1 rfl m_range (pa_c (pe_callBP (w_len (K := K) rfl) rfl m_len PySem.boot_len (pa_c (wv 1) pa_nil)) pa_nil)) (pg_name (i := 2) scLSame.nd rfl (Or.inl rfl)) (pss_cons (ws_if (PW.pt (ww_or (pt_not (wt_tr (K := K) rfl (pe_callBP (w_isiX (K := K) rfl) rfl m_isinstance boot_isinstance (pa_c (pe_ix (w_ix (K := K) rfl) (wv 0) (wv 2) (fun _ _ => rfl)) (pa_c (pe_bltn (v := .ty "tuple") rfl m_tuple boot_tuple rfl) pa_nil))))) (pw_or1 (wt_cmp (w_neA (K := K) rfl hr) (pe_ix (w_ix (K := K) rfl) (wv 0) (wv 2) (fun _ _ => rfl)) (pe_ix (w_ix (K := K) rfl) (wv 1) (wv 2) (fun _ _ => rfl)) (nomark _))))) (pss_one (ps_ret pe_bl)) pss_nil) (pss_cons (ws_for PassesOwn.never rfl (wi_seq (K := K) rfl (pe_slice (w_slX (K := K) rfl) (pe_ix (w_ix (K := K) rfl) (wv 0) (wv 2) (fun _ _ => rfl)) (wo_some pe_int) (wo_some pe_int))) (pg_name (i := 3) scLSame.nd rfl (Or.inl rfl)) (pss_one (ws_if (pt_not (wt_tr (K := K) rfl (pe_fnP c_law_whole hr (by decide) rfl (pa_c (wv 3) pa_nil)))) (pss_one (ps_ret pe_bl)) pss_nil))) (pss_one (ws_if (PW.pt (ww_and (wt_cmp (w_eqA (K := K) rfl hr) (pe_callBP (w_len (K := K) rfl) rfl m_len PySem.boot_len (pa_c (pe_ix (w_ix (K := K) rfl) (wv 1) (wv 2) (fun _ _ => rfl)) pa_nil)) pe_int (nomark _)) (pw_and1 (pt_not (wt_tr (K := K) rfl (pe_callBP (w_isiX (K := K) rfl) rfl m_isinstance boot_isinstance (pa_c (pe_ix (w_ix (K := K) rfl) (pe_ix (w_ix (K := K) rfl) (wv 0) (wv 2) (fun _ _ => rfl)) pe_int (fun _ _ => rfl)) (pa_c (pe_bltn (v := .ty "bool") rfl m_bool boot_bool rfl) pa_nil)))))))) (pss_one (ps_ret pe_bl)) pss_nil))))) (pss_one (ps_ret pe_bl)))), ?_⟩
  conv => whnf
  refine isiAnyI rfl (.lst el0) rfl ?_
  conv => whnf
  refine ifB_f rfl ?_
  conv => whnf
  refine seqLenL hl ?_
  conv => whnf
  refine seqLenL hl' ?_
  conv => whnf
  refine ifB_f (by rw [x1, x2]; simp) ?_
  conv => whnf
  refine seqLenL hl' ?_
  conv => whnf
  refine ⟨⟨by omega, by omega⟩, ?_⟩
  refine forW_range (fun i σ HX => Same H HX ∧ ∃ o1 o2, σ = [some (.ref l), some (.ref l'), o1, o2]) ⟨.refl _, _, _, rfl⟩ (fun i σ HX hi pv => ?_) (fun σ HX pv => ?_)
  · obtain ⟨sx, o1, o2, rfl⟩ := pv
    have hi : i < xs'.length := by omega
    obtain ⟨y', hy'⟩ : ∃ y, xs'[i]? = some y := ⟨_, List.getElem?_eq_getElem hi⟩
    obtain ⟨d, hdi, a', rfl, da'⟩ := hd'.get1 hy'
    obtain ⟨y, hy, a, rfl, da⟩ := hd.get2 hdi
    have hlx := sx.seq hl
    have hlx' := sx.seq hl'
    have dax := da.same sx
    have dax' := da'.same sx
    have hT := SqT.of (K := K) dax.1
    have hT' := SqT.of (K := K) dax'.1
    have i0 : (0 : Int) + (i : Nat) = ((i : Nat) : Int) := by omega
    rw [i0]
    obtain ⟨⟨is, eis⟩, hcut⟩ := cut_ints dax.2
    conv => whnf
    refine seqAtL hlx (atI_nat hy) ?_
    conv => whnf
    refine isiAnyI rfl (.tup dax.1) rfl ?_
    conv => whnf
    refine ifB_f rfl ?_
    conv => whnf
    refine seqAtL hlx (atI_nat hy) ?_
    conv => whnf
    refine seqAtL hlx' (atI_nat hy') ?_
    conv => whnf
    refine eqRefT (den_dd dax) (den_dd dax') (by have := dep_dd d; omega) ?_
    conv => whnf
    refine ifB_f rfl ?_
    conv => whnf
    refine seqAtL hlx (atI_nat hy) ?_
    conv => whnf
    refine slSeqT' hT hcut fun l2 H2 s2 n2 e2 => ?_
    rw [eis] at e2
    conv => whnf
    refine itSeqT (SqT.of e2) ?_
    refine forW_tup (xs := is.map V.int) (fun j σ HY => HY = H2 ∧ ∃ o1, σ = [some (.ref l), some (.ref l'), some (.int (i : Nat)), o1]) ⟨rfl, _, rfl⟩ (fun j σ HY _ pv => by rw [pv.1]; exact SqT.of e2) (fun j y σ HY hyj pv => ?_) (fun σ HY pv => ?_)
    · obtain ⟨rfl, o1, rfl⟩ := pv
      rw [List.getElem?_map] at hyj
      obtain ⟨v, hv, rfl⟩ := Option.map_eq_some_iff.mp hyj
      conv => whnf
      refine wholeI ?_
      conv => whnf
      refine ifB_f rfl ?_
      exact ⟨rfl, _, rfl⟩
    obtain ⟨rfl, o1, rfl⟩ := pv
    have sy := sx.trans s2
    conv => whnf
    refine seqAtL (s2.seq hlx') (atI_nat hy') ?_
    cases d with
    | come t s g k =>
      have hT2 : SqT K HY a' [.str tCome, .int t, .int s, .int g, .bl k] := s2.seqT hT'
      have hT3 : SqT K HY a [.str tCome, .int t, .int s, .int g, .bl k] := s2.seqT hT
      conv => whnf
      refine seqLenT hT2 ?_
      conv => whnf
      refine ifB_t rfl ?_
      conv => whnf
      refine seqAtL (s2.seq hlx) (atI_nat hy) ?_
      conv => whnf
      refine seqAtT hT3 (v := .bl k) rfl ?_
      conv => whnf
      refine ⟨rfl, ?_⟩
      conv => whnf
      refine ifB_f rfl ?_
      exact ⟨sy, _, _, rfl⟩
    | lf x m =>
      have hT2 : SqT K HY a' [.str x, .int m] := s2.seqT hT'
      conv => whnf
      refine seqLenT hT2 ?_
      conv => whnf
      refine ifB_f rfl ?_
      conv => whnf
      refine ifB_f rfl ?_
      exact ⟨sy, _, _, rfl⟩
    | sg x =>
      have hT2 : SqT K HY a' [.str x] := s2.seqT hT'
      conv => whnf
      refine seqLenT hT2 ?_
      conv => whnf
      refine ifB_f rfl ?_
      conv => whnf
      refine ifB_f rfl ?_
      exact ⟨sy, _, _, rfl⟩
  obtain ⟨sx, o1, o2, rfl⟩ := pv
  conv => whnf
  exact q HX sx
seal spSame
/-! ### a day drawn -/
theorem DyAt.put : ∀ {as : List Addr} {dss : List (List Dd)} {H : Hp} {i : Nat} {a r : Addr} {ds : List Dd} {d : Dd} {ys : List V}, DyAt H as dss → as.Nodup → as[i]? = some a → dss[i]? = some ds → H a = some (.lst ys) → DsAt H ys ds → DdAt H r d → DyAt (L2.upd H a (.lst (ys ++ [.ref r]))) as (dss.set i (ds ++ [d]))
  | _, _, H, 0, a, r, ds, d, ys, .cons h0 hr, nd, ha, hd, ea, hy, dr => by
    cases ha; cases hd
    exact .cons ⟨ys ++ [.ref r], upd_same, Paired.app (hy.upd ea) (.cons ⟨r, rfl, dr.upd ea⟩ .nil)⟩ (DyAt.upd hr ea (List.nodup_cons.mp nd).1)
  | b :: as, e :: dss, H, i + 1, a, r, ds, d, ys, .cons ⟨zs, e0, h0⟩ hr, nd, ha, hd, ea, hy, dr => by
    have nd' := List.nodup_cons.mp nd
    have hab : b ≠ a := fun z => nd'.1 (by rw [z]; exact List.mem_of_getElem? ha)
    exact .cons ⟨zs, by rw [upd_ne hab]; exact e0, h0.upd ea⟩ (DyAt.put hr nd'.2 ha hd ea hy dr)
theorem len_tot : ∀ {dss : List (List Dd)} {ds : List Dd}, ds ∈ dss → ds.length ≤ tot dss
  | e :: dss, ds, h => by
    unfold tot
    simp only [List.map_cons, List.sum_cons]
    rcases List.mem_cons.mp h with rfl | h
    · omega
    · have := len_tot h
      unfold tot at this
      omega
theorem fit_set {fl : Int} {n : Nat} {dss : List (List Dd)} {i : Nat} {ds : List Dd} {d : Dd} (h : ∀ ds ∈ dss, ∀ d ∈ ds, d.fit fl n) (hd : dss[i]? = some ds) (hf : d.fit fl n) : ∀ es ∈ dss.set i (ds ++ [d]), ∀ e ∈ es, e.fit fl n := by
  intro es hes e he
  rcases List.mem_or_eq_of_mem_set hes with z | rfl
  · exact h es z e he
  · rcases List.mem_append.mp he with y | y
    · exact h ds (List.mem_of_getElem? hd) e y
    · rw [List.mem_singleton.mp y]; exact hf
theorem dy_nil {H : Hp} : ∀ {as : List Addr}, (∀ a ∈ as, H a = some (.lst [])) → DyAt H as (as.map fun _ => [])
  | [], _ => .nil
  | a :: as, h => .cons ⟨[], h a (.head _), .nil⟩ (dy_nil fun b hb => h b (.tail _ hb))
theorem tot_nil : ∀ as : List Addr, tot (as.map fun _ => []) = 0
  | [] => rfl
  | a :: as => by have := tot_nil as; unfold tot at *; simp only [List.map_cons, List.sum_cons, List.length_nil] at *; omega
def spLDay (K : PySem.W.Frag) : Sp := fun vs H Q _ => ∃ a ns h fl n, vs = [.ref a, .ref h] ∧ ScB K H a ns ∧ HsAt K H h fl n ∧ ∀ l as dss H', Same H H' → H' l = some (.lst (as.map V.ref)) → DyAt H' as dss → (∀ ds ∈ dss, ∀ d ∈ ds, d.fit fl n) → 1 ≤ dss.length → dss.length ≤ 9 → tot dss ≤ 81 → Q (.ref l) H'
theorem ldayI {H : Hp} {a h : Addr} {ns : List Int} {fl : Int} {n : Nat} {Q : VK} {E : XK} (h1 : ScB K H a ns) (h2 : HsAt K H h fl n) (g : ∀ l as dss H', Same H H' → H' l = some (.lst (as.map V.ref)) → DyAt H' as dss → (∀ ds ∈ dss, ∀ d ∈ ds, d.fit fl n) → 1 ≤ dss.length → dss.length ≤ 9 → tot dss ≤ 81 → Q (.ref l) H') : spLDay K [.ref a, .ref h] H Q E := ⟨a, ns, h, fl, n, rfl, h1, h2, g⟩
/-- a day under way: its turns' lists stay, their deeds grow -/
structure DayS (H HX : Hp) (l : Addr) (as : List Addr) (fl : Int) (n : Nat) (B : Nat) (dss : List (List Dd)) : Prop where
  sm : Same H HX
  el : HX l = some (.lst (as.map V.ref))
  dy : DyAt HX as dss
  ft : ∀ ds ∈ dss, ∀ d ∈ ds, d.fit fl n
  tt : tot dss ≤ B
theorem DayS.same {H HX HY : Hp} {l : Addr} {as : List Addr} {fl : Int} {n B : Nat} {dss : List (List Dd)} (h : DayS H HX l as fl n B dss) (s : Same HX HY) : DayS H HY l as fl n B dss := ⟨h.sm.trans s, s _ _ h.el, DyAt.same h.dy s, h.ft, h.tt⟩
theorem DayS.put {H HX : Hp} {l : Addr} {as : List Addr} {fl : Int} {n B : Nat} {dss : List (List Dd)} {i : Nat} {a r : Addr} {d : Dd} (h : DayS H HX l as fl n B dss) (nd : as.Nodup) (fr : ∀ a ∈ as, H a = none ∧ a ≠ l) (ha : as[i]? = some a) (dr : DdAt HX r d) (df : d.fit fl n) :
    ∃ ys, HX a = some (.lst ys) ∧ ys.length ≤ B ∧ DayS H (L2.upd HX a (.lst (ys ++ [.ref r]))) l as fl n (B + 1) (dss.set i ((dss.getD i []) ++ [d])) := by
  obtain ⟨ds, hd, ys, ey, hy⟩ := h.dy.get1 ha
  have hm := List.mem_of_getElem? ha
  have hg : dss.getD i [] = ds := by rw [List.getD_eq_getElem?_getD, hd]; rfl
  have hl := hy.len
  have ht := len_tot (List.mem_of_getElem? hd)
  have := h.tt
  refine ⟨ys, ey, by omega, Same.updF' h.sm (fr a hm).1, by rw [upd_ne (fun z => (fr a hm).2 z.symm)]; exact h.el, ?_, ?_, ?_⟩
  · rw [hg]; exact DyAt.put h.dy nd ha hd ey hy dr
  · rw [hg]; exact fit_set h.ft hd df
  · rw [hg, tot_set hd]; omega
theorem ok_lday (F : Fun K "_law_day" "_law_day" sLDay f fd) (m_range : mg "range" = none) (m_len : mg "len" = none) (c_law_draw : Cal P w K mg base 2 "_law_draw" ["_law_script", "_law_k", "_law_prime", "_law_many"] (spDr K)) (c_law_tag : Cal P w K mg base 3 "_law_tag" ["_law_script", "_law_number_here"] (spTag K)) (c_law_deed : Cal P w K mg base 4 "_law_deed" ["_law_script", "_law_at", "_law_house_here", "_law_tag_here"] (spDeed K)) : FnOk P w K mg base CX0 5 f fd ["_law_script", "_law_house_here"] (spLDay K) := by
  refine F.ok scLDay (fun vs H Q E h => ?_) (fun cdv A outer s H vs Q E hr h => ?_)
  · obtain ⟨a, ns, h, fl, n, rfl, _⟩ := h
    rfl
  obtain ⟨a, ns, h, fl, n, rfl, hS, hh, q⟩ := h
  refine ⟨_, (pss_cons (ws_setC (i := 2) rfl scLDay.nd rfl (Or.inl rfl) (comp_scope (N' := ["_law_k"]) (pk := [none]) (by kernel_rfl)) (wi_range1 rfl m_range (pa_c (pe_op (w_addY (K := K) rfl) pe_int (pe_fnP c_law_draw hr (by decide) rfl (pa_c (wv 0) (pa_c pe_int (pa_c pe_int (pa_c pe_int pa_nil)))))) pa_nil)) (fun C s H ex => (pg_name (i := 0) (show List.Nodup (["_law_k"] : List Str) by decide +kernel) rfl (Or.inl rfl))) (fun C s H ex => pts_nil) (fun C s H ex => (we_lst pa_nil))) (pss_cons (ws_for PassesOwn.never rfl (wi_range1 rfl m_range (pa_c (pe_callBP (w_len (K := K) rfl) rfl m_len PySem.boot_len (pa_c (wv 2) pa_nil)) pa_nil)) (pg_name (i := 3) scLDay.nd rfl (Or.inl rfl)) (pss_one (ws_for PassesOwn.never rfl (wi_range1 rfl m_range (pa_c (pe_fnP c_law_draw hr (by decide) rfl (pa_c (wv 0) (pa_c (pe_op (w_addY (K := K) rfl) pe_int (wv 3)) (pa_c pe_int (pa_c pe_int pa_nil))))) pa_nil)) (pg_name (i := 4) scLDay.nd rfl (Or.inl rfl)) (pss_one (ps_expr (we_bm (K := K) rfl PySem.F.plainAttrs_list PySem.F.slot_list_append PySem.F.type_list_append w_append (pe_ix (w_ix (K := K) rfl) (wv 2) (wv 3) (fun _ _ => rfl)) (pa_c (pe_fnP c_law_deed hr (by decide) rfl (pa_c (wv 0) (pa_c (pe_op (w_addY (K := K) rfl) pe_int (pe_op w_mod (pe_op (w_addY (K := K) rfl) (wv 3) (pe_op w_mul (wv 4) pe_int)) pe_int)) (pa_c (wv 1) (pa_c (pe_fnP c_law_tag hr (by decide) rfl (pa_c (wv 0) (pa_c (pe_op (w_addY (K := K) rfl) (wv 3) (pe_op w_mul pe_int (wv 4))) pa_nil))) pa_nil))))) pa_nil))))))) (pss_cons (ws_for PassesOwn.never rfl (wi_range1 rfl m_range (pa_c (pe_callBP (w_len (K := K) rfl) rfl m_len PySem.boot_len (pa_c (pe_slice (w_slX (K := K) rfl) (wv 0) (wo_some pe_int) (wo_some pe_int)) pa_nil)) pa_nil)) (pg_name (i := 3) scLDay.nd rfl (Or.inl rfl)) (pss_cons (ps_set (i := 5) scLDay.nd rfl (Or.inl rfl) (pe_fnP c_law_draw hr (by decide) rfl (pa_c (wv 0) (pa_c (pe_op (w_addY (K := K) rfl) pe_int (wv 3)) (pa_c pe_int (pa_c (pe_callBP (w_len (K := K) rfl) rfl m_len PySem.boot_len (pa_c (wv 2) pa_nil)) pa_nil)))))) (pss_one (ps_expr (we_bm (K := K) rfl PySem.F.plainAttrs_list PySem.F.slot_list_append PySem.F.type_list_append w_append (pe_ix (w_ix (K := K) rfl) (wv 2) (wv 5) (fun _ _ => rfl)) (pa_c (pe_fnP c_law_deed hr (by decide) rfl (pa_c (wv 0) (pa_c (pe_op (w_addY (K := K) rfl) pe_int (wv 3)) (pa_c (wv 1) (pa_c (pe_fnP c_law_tag hr (by decide) rfl (pa_c (wv 0) (pa_c (pe_op (w_addY (K := K) rfl) pe_int (wv 3)) pa_nil))) pa_nil))))) pa_nil)))))) (pss_one (ps_ret (wv 2)))))), ?_⟩
  conv => whnf
  refine drI hS (by decide) (by decide) (by decide) (by decide) fun j j0 j1 => ?_
  conv => whnf
  refine ⟨⟨by omega, by omega⟩, ?_⟩
  refine comp_range (fun i ys HX => Same H HX ∧ ∃ as : List Addr, ys = as.map V.ref ∧ as.length = i ∧ as.Nodup ∧ ∀ a ∈ as, HX a = some (.lst []) ∧ H a = none) (szN (by omega)) (fun i ys HX p => by obtain ⟨_, as, rfl, e, _⟩ := p; rw [List.length_map]; omega) ⟨.refl _, [], rfl, rfl, List.nodup_nil, fun a ha => nomatch ha⟩ (fun i ys HX hi p => ?_) (fun ys HX p l nl => ?_)
  · obtain ⟨sx, as, rfl, e, nd, fr⟩ := p
    conv => whnf
    refine ⟨sup_set, ?_⟩
    conv => whnf
    refine lstI (szN (by show 0 ≤ 1000000; decide)) fun b H2 s2 n2 e2 => ⟨sx.trans s2, as ++ [b], by rw [List.map_append]; rfl, by simp; omega, ?_, fun c hc => ?_⟩
    · refine List.nodup_append.mpr ⟨nd, by simp, fun c hc d hd => ?_⟩
      rw [List.mem_singleton.mp hd]
      intro z
      rw [z] at hc
      rw [(fr b hc).1] at n2
      cases n2
    · rcases List.mem_append.mp hc with hc | hc
      · exact ⟨s2 _ _ (fr c hc).1, (fr c hc).2⟩
      · rw [List.mem_singleton.mp hc]
        refine ⟨e2, ?_⟩
        cases z : H b with
        | none => rfl
        | some o => rw [sx _ _ z] at n2; cases n2
  obtain ⟨sx, as, rfl, hal, nd, fr0⟩ := p
  have hlH : H l = none := by
    cases z : H l with
    | none => rfl
    | some o => rw [sx _ _ z] at nl; cases nl
  have fr : ∀ a ∈ as, H a = none ∧ a ≠ l := fun a ha => ⟨(fr0 a ha).2, fun z => by rw [z] at ha; rw [(fr0 l ha).1] at nl; cases nl⟩
  have al9 : as.length ≤ 9 := by omega
  have al1 : 1 ≤ as.length := by omega
  generalize hH4 : upd HX l (.lst (as.map V.ref)) = H4
  have s4 : Same HX H4 := by rw [← hH4]; exact .upd nl
  have e4 : H4 l = some (.lst (as.map V.ref)) := by rw [← hH4]; exact upd_same
  clear hH4
  have fit0 : ∀ ds ∈ as.map (fun _ => ([] : List Dd)), ∀ d ∈ ds, d.fit fl n := by
    intro ds hds d hd
    obtain ⟨_, _, rfl⟩ := List.mem_map.mp hds
    cases hd
  have D0 : DayS H H4 l as fl n (5 * 0) (as.map fun _ => []) := ⟨sx.trans s4, e4, dy_nil fun a ha => s4 _ _ (fr0 a ha).1, fit0, Nat.le_of_eq (tot_nil as)⟩
  conv => whnf
  refine seqLenL (SqL.of e4) ?_
  conv => whnf
  have lr : ((as.map V.ref).length : Int) = as.length := by rw [List.length_map]
  refine ⟨⟨by omega, by omega⟩, ?_⟩
  refine forW_range (fun i σ HY => (∃ dss, DayS H HY l as fl n (5 * i) dss) ∧ ∃ o1 o2 o3, σ = [some (.ref a), some (.ref h), some (.ref l), o1, o2, o3]) ⟨⟨_, D0⟩, _, _, _, rfl⟩ (fun i σ HY hi pv => ?_) (fun σ HY pv => ?_)
  · obtain ⟨⟨dss, DS⟩, o1, o2, o3, rfl⟩ := pv
    have i9 : i < as.length := by rw [List.length_map] at hi; omega
    have i0 : (0 : Int) + (i : Nat) = ((i : Nat) : Int) := by omega
    rw [i0]
    obtain ⟨b, hb⟩ : ∃ b, as[i]? = some b := ⟨_, List.getElem?_eq_getElem i9⟩
    have hbr : (as.map V.ref)[i]? = some (.ref b) := by rw [List.getElem?_map, hb]; rfl
    conv => whnf
    refine drI (hS.same DS.sm) (by omega) (by omega) (by decide) (by decide) fun c c0 c1 => ?_
    conv => whnf
    refine ⟨⟨by omega, by omega⟩, ?_⟩
    refine forW_range (fun m σ HZ => (∃ dss, DayS H HZ l as fl n (5 * i + m) dss) ∧ ∃ o2 o3, σ = [some (.ref a), some (.ref h), some (.ref l), some (.int (i : Nat)), o2, o3]) ⟨⟨dss, DS⟩, _, _, rfl⟩ (fun m σ HZ hm pv => ?_) (fun σ HZ pv => ?_)
    · obtain ⟨⟨dss, DS⟩, o2, o3, rfl⟩ := pv
      have m5 : m < 5 := by omega
      have m0 : (0 : Int) + (m : Nat) = ((m : Nat) : Int) := by omega
      rw [m0]
      conv => whnf
      refine seqAtL (SqL.of DS.el) (atI_nat hbr) ?_
      obtain ⟨ds, hd, ys, ey, hy⟩ := DS.dy.get1 hb
      conv => whnf
      refine ⟨.inl ⟨rfl, _, SqL.of ey⟩, ?_⟩
      conv => whnf
      refine ⟨cmul_r (by decide) (by decide), ?_⟩
      conv => whnf
      refine ⟨by decide, ?_⟩
      conv => whnf
      refine ⟨cmul_l (by decide) (by decide), ?_⟩
      conv => whnf
      refine tagI (hS.same DS.sm) (by omega) (by omega) fun tg => ?_
      conv => whnf
      refine deedI (hS.same DS.sm) (by omega) (by omega) (hh.same DS.sm) fun r d H5 s5 da df => ?_
      obtain ⟨zs, ez, hz, D2⟩ := (DS.same s5).put nd fr hb da df
      conv => whnf
      refine appLI ez (szL (by omega)) ?_
      exact ⟨⟨_, D2⟩, _, _, rfl⟩
    obtain ⟨⟨dss, DS⟩, o2, o3, rfl⟩ := pv
    exact ⟨⟨dss, DS.sm, DS.el, DS.dy, DS.ft, by have := DS.tt; omega⟩, _, _, _, rfl⟩
  obtain ⟨⟨dss, DS⟩, o1, o2, o3, rfl⟩ := pv
  have D45 : DayS H HY l as fl n (45 + 0) dss := ⟨DS.sm, DS.el, DS.dy, DS.ft, by have := DS.tt; rw [lr] at this; omega⟩
  conv => whnf
  refine slSeqL' (hS.same DS.sm).1.1 fun l2 H2 s2 n2 e2 => ?_
  conv => whnf
  refine seqLenL (SqL.of e2) ?_
  conv => whnf
  have hc : (cutV (List.map V.int ns) (some 26) (some 62)).length ≤ 36 := by
    unfold cutV
    simp only [List.length_take, List.length_drop, List.length_map]
    rw [show (some (62 : Int)) = some ((62 : Nat) : Int) from rfl, show (some (26 : Int)) = some ((26 : Nat) : Int) from rfl, HT.sIx_nat, HT.sIx_nat]
    omega
  generalize (cutV (List.map V.int ns) (some 26) (some 62)).length = c at hc ⊢
  refine ⟨⟨by omega, by omega⟩, ?_⟩
  refine forW_range (fun i σ HZ => (∃ dss, DayS H HZ l as fl n (45 + i) dss) ∧ ∃ o1 o2 o3, σ = [some (.ref a), some (.ref h), some (.ref l), o1, o2, o3]) ⟨⟨dss, D45.same s2⟩, _, _, _, rfl⟩ (fun i σ HZ hi pv => ?_) (fun σ HZ pv => ?_)
  · obtain ⟨⟨dss, DS⟩, o1, o2, o3, rfl⟩ := pv
    have i0 : (0 : Int) + (i : Nat) = ((i : Nat) : Int) := by omega
    rw [i0]
    conv => whnf
    refine seqLenL (SqL.of DS.el) ?_
    conv => whnf
    refine drI (hS.same DS.sm) (by omega) (by omega) (by decide) (by omega) fun k k0 k1 => ?_
    obtain ⟨kn, rfl⟩ := Int.eq_ofNat_of_zero_le k0
    have k1 : (kn : Int) < ((as.map V.ref).length : Int) := k1
    have kl : kn < as.length := by omega
    obtain ⟨b, hb⟩ : ∃ b, as[kn]? = some b := ⟨_, List.getElem?_eq_getElem kl⟩
    have hbr : (as.map V.ref)[kn]? = some (.ref b) := by rw [List.getElem?_map, hb]; rfl
    conv => whnf
    refine seqAtL (SqL.of DS.el) (atI_nat hbr) ?_
    obtain ⟨ds, hd, ys, ey, hy⟩ := DS.dy.get1 hb
    conv => whnf
    refine ⟨.inl ⟨rfl, _, SqL.of ey⟩, ?_⟩
    conv => whnf
    refine tagI (hS.same DS.sm) (by omega) (by omega) fun tg => ?_
    conv => whnf
    refine deedI (hS.same DS.sm) (by omega) (by omega) (hh.same DS.sm) fun r d H5 s5 da df => ?_
    obtain ⟨zs, ez, hz, D2⟩ := (DS.same s5).put nd fr hb da df
    conv => whnf
    refine appLI ez (szL (by omega)) ?_
    exact ⟨⟨_, D2⟩, _, _, _, rfl⟩
  obtain ⟨⟨dss, DS⟩, o1, o2, o3, rfl⟩ := pv
  have dl := DS.dy.len
  conv => whnf
  exact q l as dss HZ DS.sm DS.el DS.dy DS.ft (by omega) (by omega) (by have := DS.tt; omega)
seal spLDay
/-! ### a day read by the law -/
def YR (H0 H : Hp) (r : Addr) : List (List Dd) ⊕ Du → Prop
  | .inl dss => ∃ l as, H r = some (.tup [.str tGood, .ref l]) ∧ H l = some (.lst (as.map V.ref)) ∧ DyAt H as dss ∧ H0 l = none ∧ ∀ a ∈ as, H0 a = none
  | .inr u => H r = some (.tup u.v) ∧ u ≠ .good
theorem YR.same {H0 H H' : Hp} {r : Addr} {x : List (List Dd) ⊕ Du} (h : YR H0 H r x) (s : Same H H') : YR H0 H' r x := by
  cases x with
  | inl d => obtain ⟨l, xs, e, el, da, n, m⟩ := h; exact ⟨l, xs, s _ _ e, s _ _ el, DyAt.same da s, n, m⟩
  | inr u => exact ⟨s _ _ h.1, h.2⟩
def spLDyR (K : PySem.W.Frag) : Sp := fun vs H Q _ => ∃ x h fl n, vs = [.str x, .ref h] ∧ TX x ∧ HsAt K H h fl n ∧ ∀ r H', Same H H' → YR H H' r (rdDy fl n x) → Q (.ref r) H'
theorem ldyrI {H : Hp} {h : Addr} {fl : Int} {n : Nat} {x : Str} {Q : VK} {E : XK} (h1 : TX x) (h2 : HsAt K H h fl n) (g : ∀ r H', Same H H' → YR H H' r (rdDy fl n x) → Q (.ref r) H') : spLDyR K [.str x, .ref h] H Q E := ⟨x, h, fl, n, rfl, h1, h2, g⟩
theorem ok_ldyr (F : Fun K "_law_day_read" "_law_day_read" sLDayRead f fd) (m_len : mg "len" = none) (c_law_turn_read : Cal P w K mg base 4 "_law_turn_read" ["_law_text", "_law_house_here", "_law_first"] (spLTurn K)) : FnOk P w K mg base CX0 5 f fd ["_law_text", "_law_house_here"] (spLDyR K) := by
  refine F.ok scLDayRead (fun vs H Q E h => ?_) (fun cdv A outer s H vs Q E hr h => ?_)
  · obtain ⟨x, h, fl, n, rfl, _⟩ := h
    rfl
  obtain ⟨x, h, fl, n, rfl, hx, hh, q⟩ := h
  refine ⟨_, (pss_cons (ps_set (i := 2) scLDayRead.nd rfl (Or.inl rfl) (we_lst pa_nil)) (pss_cons (ps_set (i := 3) scLDayRead.nd rfl (Or.inl rfl) pe_int) (pss_cons (ws_for PassesOwn.never rfl (wi_seq (K := K) rfl (we_bm (K := K) rfl PySem.F.plainAttrs_str PySem.F.slot_str_split PySem.F.type_str_split w_split (wv 0) (pa_c pe_str pa_nil))) (pg_name (i := 4) scLDayRead.nd rfl (Or.inl rfl)) (pss_cons (ps_set (i := 5) scLDayRead.nd rfl (Or.inl rfl) (pe_fnP c_law_turn_read hr (by decide) rfl (pa_c (wv 4) (pa_c (wv 1) (pa_c (wv 3) pa_nil))))) (pss_cons (ws_if (wt_cmp (w_neA (K := K) rfl hr) (pe_ix (w_ix (K := K) rfl) (wv 5) pe_int (fun _ _ => rfl)) pe_str (nomark _)) (pss_one (ps_ret (wv 5))) pss_nil) (pss_cons (ps_expr (we_bm (K := K) rfl PySem.F.plainAttrs_list PySem.F.slot_list_append PySem.F.type_list_append w_append (wv 2) (pa_c (pe_ix (w_ix (K := K) rfl) (wv 5) pe_int (fun _ _ => rfl)) pa_nil))) (pss_one (ps_set (i := 3) scLDayRead.nd rfl (Or.inl rfl) (pe_op (w_addY (K := K) rfl) (wv 3) (pe_callBP (w_len (K := K) rfl) rfl m_len PySem.boot_len (pa_c (we_comp rfl (comp_scope (N' := ["_law_deed_here"]) (pk := [none]) (by kernel_rfl)) (wi_seq (K := K) rfl (pe_ix (w_ix (K := K) rfl) (wv 5) pe_int (fun _ _ => rfl))) (fun C s H ex => (pg_name (i := 0) (show List.Nodup (["_law_deed_here"] : List Str) by decide +kernel) rfl (Or.inl rfl))) (fun C s H ex => (pts_one (wt_cmp (w_eqA (K := K) rfl hr) (pe_ix (w_ix (K := K) rfl) (wv 0) pe_int (fun _ _ => rfl)) pe_str (nomark _)))) (fun C s H ex => (wv 0))) pa_nil))))))))) (pss_one (ps_ret (we_tup (pa_c pe_str (pa_c (wv 2) pa_nil)))))))), ?_⟩
  conv => whnf
  refine lstI (szN (by show 0 ≤ 1000000; decide)) fun l H1 s1 n1 e1 => ?_
  conv => whnf
  refine ⟨rfl, ?_⟩
  conv => whnf
  refine ⟨⟨rfl, szN (by have := hx.1; omega)⟩, fun pl np => ?_⟩
  generalize hH2 : upd H1 pl _ = H2
  have s2 : Same H1 H2 := by rw [← hH2]; exact .upd np
  have e2 : H2 pl = some (.lst ((sms x).map V.str)) := by rw [← hH2]; exact upd_same
  clear hH2
  have nl : pl ≠ l := fun z => by rw [z] at np; rw [np] at e1; cases e1
  have hps : ∀ p ∈ sms x, TX p := fun p hp => hx.part hp
  have hpl : (sms x).length ≤ 5002 := split_len2 hx
  unfold rdDy at q
  generalize sms x = ps at q e2 hps hpl
  conv => whnf
  refine itSeqL (SqL.of e2) ?_
  refine forW_list (xs := ps.map V.str) (fun i σ HX => Same H HX ∧ HX pl = some (.lst (ps.map V.str)) ∧ ∃ as dss tg o1 o2, HX l = some (.lst (as.map V.ref)) ∧ DyAt HX as dss ∧ (∀ a ∈ as, H a = none ∧ a ≠ l) ∧ as.length ≤ i ∧ rdY fl n ps 0 = preY dss (rdY fl n (ps.drop i) tg) ∧ σ = [some (.str x), some (.ref h), some (.ref l), some (.int tg), o1, o2]) ⟨s1.trans s2, e2, [], [], 0, none, none, s2 _ _ e1, .nil, (fun a ha => nomatch ha), Nat.le_refl _, by rw [List.drop_zero, preY_nil], rfl⟩ (fun i σ HX _ pv => SqL.of pv.2.1) (fun i y σ HX hy pv => ?_) (fun σ HX pv => ?_)
  · obtain ⟨sx, ep, as, dss, tg, o1, o2, el, hds, hfr, hxl, hrd, rfl⟩ := pv
    obtain ⟨p, hp, rfl⟩ : ∃ p, ps[i]? = some p ∧ y = .str p := by
      rw [List.getElem?_map] at hy
      obtain ⟨p, hp, e⟩ := Option.map_eq_some_iff.mp hy
      exact ⟨p, hp, e.symm⟩
    have hpx := hps p (List.mem_of_getElem? hp)
    have hil : i < ps.length := (List.getElem?_eq_some_iff.mp hp).1
    have dr : ps.drop i = p :: ps.drop (i + 1) := by
      rw [List.drop_eq_getElem_cons hil, (List.getElem?_eq_some_iff.mp hp).2]
    rw [dr] at hrd
    conv => whnf
    refine lturnI hpx (hh.same sx) fun r H3 s3 tr => ?_
    cases hu : rdS fl n p tg with
    | inr u =>
      have e : rdY fl n ps 0 = .inr u := by rw [hrd, rdY_bad hu]; rfl
      rw [e] at q
      rw [hu] at tr
      obtain ⟨er, ne⟩ := tr
      obtain ⟨nm, iv, ev, hne⟩ := bad_name ne
      have er' : SqT K H3 r [.str nm, .int iv] := SqT.of (by rw [er, ev])
      conv => whnf
      refine seqAtT er' (v := .str nm) rfl ?_
      conv => whnf
      refine ifB_t (by show (!decide (nm = tGood)) = true; rw [decide_eq_false hne]; rfl) ?_
      conv => whnf
      exact q r H3 (sx.trans s3) ⟨er, ne⟩
    | inl ds =>
      rw [hu] at tr
      obtain ⟨a, ys, er, ea, hd, na⟩ := tr
      have el3 := s3 _ _ el
      have hal : a ≠ l := fun z => by rw [z, el] at na; cases na
      have hHa : H a = none := by
        cases z : H a with
        | none => rfl
        | some o => rw [sx _ _ z] at na; cases na
      conv => whnf
      refine seqAtT (SqT.of er) (v := .str tGood) rfl ?_
      conv => whnf
      refine ifB_f rfl ?_
      conv => whnf
      refine ⟨.inl ⟨rfl, _, SqL.of el3⟩, ?_⟩
      conv => whnf
      refine seqAtT (SqT.of er) (v := .ref a) rfl ?_
      conv => whnf
      refine appLI el3 (szL (by rw [List.length_map]; omega)) ?_
      generalize hH5 : upd H3 l (.lst (as.map V.ref ++ [.ref a])) = H5
      have s5 : Same H H5 := by rw [← hH5]; exact Same.updF' (sx.trans s3) n1
      have ds5 : DyAt H5 as dss := by rw [← hH5]; exact DyAt.upd (DyAt.same hds s3) el3 fun z => (hfr l z).2 rfl
      have el5 : H5 l = some (.lst ((as ++ [a]).map V.ref)) := by rw [← hH5, upd_same, List.map_append]; rfl
      have ep5 : H5 pl = some (.lst (ps.map V.str)) := by rw [← hH5, upd_ne nl]; exact s3 _ _ ep
      have ea5 : H5 a = some (.lst ys) := by rw [← hH5, upd_ne hal]; exact ea
      have hd5 : DsAt H5 ys ds := by rw [← hH5]; exact hd.upd el3
      have er5 : SqT K H5 r [.str tGood, .ref a] := SqT.of (by rw [← hH5, upd_ne (fun z => by rw [z, el3] at er; cases er)]; exact er)
      clear hH5
      have hrd2 := hrd.trans (rdY_go (ps := ps.drop (i + 1)) dss hu)
      have hdl := hd5.len
      have hsl := rdS_len hpx ds hu
      conv => whnf
      refine seqAtT er5 (v := .ref a) rfl ?_
      conv => whnf
      refine itSeqL (SqL.of ea5) ?_
      refine comp_list (xs := ys) (fun j zs HZ => HZ = H5 ∧ zs.length = nC (ds.take j) ∧ zs.length ≤ j) (szN (by omega)) (fun j zs HZ p => p.2.2) ⟨rfl, rfl, Nat.le_refl _⟩ (fun j zs HZ _ p => by rw [p.1]; exact SqL.of ea5) (fun j x zs HZ hxi p => ?_) (fun zs HZ p a3 n3 => ?_)
      · obtain ⟨rfl, e1, e2⟩ := p
        obtain ⟨d, hdj, b, rfl, da⟩ := hd5.get1 hxi
        obtain ⟨nm, vs, ev, hc⟩ := isCome_is da.2
        have T : SqT K HZ b (.str nm :: vs) := SqT.of (by rw [← ev]; exact da.1)
        have en : nC (ds.take (j + 1)) = nC (ds.take j) + (if d.isCome = true then 1 else 0) := by rw [List.take_add_one, hdj]; exact nC_snoc _ _
        conv => whnf
        refine ⟨sup_set, ?_⟩
        conv => whnf
        refine seqAtT T (v := .str nm) (atI_nat (j := 0) rfl) ?_
        show if decide (nm = tCome) = true then _ else _
        rw [hc]
        cases h : d.isCome with
        | true =>
          rw [if_pos rfl]
          refine ⟨rfl, ?_, ?_⟩
          · rw [en, h, List.length_append, e1]; rfl
          · rw [List.length_append]; show _ + 1 ≤ _; omega
        | false =>
          rw [if_neg Bool.false_ne_true]
          refine ⟨rfl, ?_, by omega⟩
          rw [en, h, e1]; rfl
      obtain ⟨rfl, hcl, _⟩ := p
      rw [List.take_of_length_le (by omega)] at hcl
      generalize hH6 : upd HZ a3 (.lst zs) = H6
      have s6 : Same HZ H6 := by rw [← hH6]; exact .upd n3
      have e6 : H6 a3 = some (.lst zs) := by rw [← hH6]; exact upd_same
      clear hH6
      conv => whnf
      refine seqLenL (SqL.of e6) ?_
      conv => whnf
      rw [hcl]
      exact ⟨s5.trans s6, s6 _ _ ep5, as ++ [a], dss ++ [ds], _, _, _, s6 _ _ el5, Paired.app (DyAt.same ds5 s6) (.cons ⟨ys, s6 _ _ ea5, hd5.same s6⟩ .nil), (fun b hb => by
        rcases List.mem_append.mp hb with hb | hb
        · exact hfr b hb
        · rw [List.mem_singleton.mp hb]; exact ⟨hHa, hal⟩), by simp; omega, hrd2, rfl⟩
  · obtain ⟨sx, ep, as, dss, tg, o1, o2, el, hds, hfr, hxl, hrd, rfl⟩ := pv
    have e : rdY fl n ps 0 = .inl dss := by
      rw [hrd, List.length_map, List.drop_of_length_le (Nat.le_refl _)]
      show Sum.inl (dss ++ []) = _
      rw [List.append_nil]
    rw [e] at q
    conv => whnf
    exact tupI (szN (by show 2 ≤ 1000000; decide)) fun r H2 s2 n2 e2 => q r H2 (sx.trans s2) ⟨l, as, e2, s2 _ _ el, DyAt.same hds s2, n1, fun a ha => (hfr a ha).1⟩
seal spLDyR
structure Tks (K : PySem.W.Frag) (D : Addr) (b : String) (kNoFloor kNoLift kTwice kNoRide kNoDeed kNoDeal kNoHouse kNoRule kNoIll kNoLine kEmpty kTooMany : Addr) : Prop where
  tNoFloor : PySem.W.kitOne K (.ref D) (.ref kNoFloor) = some ("NoFloor" == b)
  tNoLift : PySem.W.kitOne K (.ref D) (.ref kNoLift) = some ("NoLift" == b)
  tTwice : PySem.W.kitOne K (.ref D) (.ref kTwice) = some ("Twice" == b)
  tNoRide : PySem.W.kitOne K (.ref D) (.ref kNoRide) = some ("NoRide" == b)
  tNoDeed : PySem.W.kitOne K (.ref D) (.ref kNoDeed) = some ("NoDeed" == b)
  tNoDeal : PySem.W.kitOne K (.ref D) (.ref kNoDeal) = some ("NoDeal" == b)
  tNoHouse : PySem.W.kitOne K (.ref D) (.ref kNoHouse) = some ("NoHouse" == b)
  tNoRule : PySem.W.kitOne K (.ref D) (.ref kNoRule) = some ("NoRule" == b)
  tNoIll : PySem.W.kitOne K (.ref D) (.ref kNoIll) = some ("NoIll" == b)
  tNoLine : PySem.W.kitOne K (.ref D) (.ref kNoLine) = some ("NoLine" == b)
  tEmpty : PySem.W.kitOne K (.ref D) (.ref kEmpty) = some ("Empty" == b)
  tTooMany : PySem.W.kitOne K (.ref D) (.ref kTooMany) = some ("TooMany" == b)
  tVE : PySem.W.kitOne K (.ref D) (.type "ValueError") = some true
  ek : ExcK K D
theorem Same.updF {H0 H1 : Hp} {o : Addr} {x : HO} (s : Same H0 H1) (h : H0 o = none) : Same H0 (upd H1 o x) := fun b u z => by
  rw [upd_ne (fun e => by rw [e, h] at z; cases z)]; exact s b u z
/-- an exception that is caught -/
def XcAt (kF kL kR kD : Addr) (H : Hp) (e : Addr) : Du → Prop
  | .floor i => ∃ d, H e = some (excO e (.ref kF) (some d)) ∧ H d = some (.xd [(tFloor, .int i)])
  | .lift i => ∃ d, H e = some (excO e (.ref kL) (some d)) ∧ H d = some (.xd [(tLift, .int i)])
  | .ride => H e = some (excO e (.ref kR) none)
  | .deed => H e = some (excO e (.ref kD) none)
  | .good => False
def spName (kF kL kR kD : Addr) : Sp := fun vs H Q _ => ∃ e u, vs = [.ref e] ∧ XcAt kF kL kR kD H e u ∧ ∀ r H', Same H H' → H' r = some (.tup u.v) → Q (.ref r) H'
theorem nameI {kF kL kR kD : Addr} {H : Hp} {e : Addr} {u : Du} {Q : VK} {E : XK} (h1 : XcAt kF kL kR kD H e u) (g : ∀ r H', Same H H' → H' r = some (.tup u.v) → Q (.ref r) H') : spName kF kL kR kD [.ref e] H Q E := ⟨e, u, rfl, h1, g⟩
unseal xfldAt in
theorem xfldI {K : PySem.W.Frag} {fl : Str} {a D d : Addr} {fs : List (Str × V)} {v : V} {H : Hp} {Q : VK} (h1 : H a = some (excO a (.ref D) (some d))) (h2 : H d = some (.xd fs)) (h3 : ExcK K D) (h4 : PySem.W.hasDictIn K D = true) (h5 : PySem.W.findIn K (.ref D) fl = some none) (h6 : fs.lookup fl = some v) (g : Q v H) : xfldAt K fl a H Q := ⟨D, d, fs, v, h1, h2, h3, h4, h5, h6, g⟩
theorem ok_name {kNoFloor kNoLift kTwice kNoRide kNoDeed kNoDeal kNoHouse kNoRule kNoIll kNoLine kEmpty kTooMany : Addr} (F : Fun K "_law_name" "_law_name" sLName f fd) (m_isinstance : mg "isinstance" = none) (m_ValueError : mg "ValueError" = none) (m_len : mg "len" = none) (g_NoFloor : mg "NoFloor" = some (.ref kNoFloor)) (g_NoLift : mg "NoLift" = some (.ref kNoLift)) (g_Twice : mg "Twice" = some (.ref kTwice)) (g_NoRide : mg "NoRide" = some (.ref kNoRide)) (g_NoDeed : mg "NoDeed" = some (.ref kNoDeed)) (g_NoDeal : mg "NoDeal" = some (.ref kNoDeal)) (g_NoHouse : mg "NoHouse" = some (.ref kNoHouse)) (g_NoRule : mg "NoRule" = some (.ref kNoRule)) (g_NoIll : mg "NoIll" = some (.ref kNoIll)) (g_NoLine : mg "NoLine" = some (.ref kNoLine)) (g_Empty : mg "Empty" = some (.ref kEmpty)) (g_TooMany : mg "TooMany" = some (.ref kTooMany)) (tF : Tks K kNoFloor "NoFloor" kNoFloor kNoLift kTwice kNoRide kNoDeed kNoDeal kNoHouse kNoRule kNoIll kNoLine kEmpty kTooMany) (tL : Tks K kNoLift "NoLift" kNoFloor kNoLift kTwice kNoRide kNoDeed kNoDeal kNoHouse kNoRule kNoIll kNoLine kEmpty kTooMany) (tR : Tks K kNoRide "NoRide" kNoFloor kNoLift kTwice kNoRide kNoDeed kNoDeal kNoHouse kNoRule kNoIll kNoLine kEmpty kTooMany) (tD : Tks K kNoDeed "NoDeed" kNoFloor kNoLift kTwice kNoRide kNoDeed kNoDeal kNoHouse kNoRule kNoIll kNoLine kEmpty kTooMany) (hd_NoFloor : PySem.W.hasDictIn K kNoFloor = true) (hd_NoLift : PySem.W.hasDictIn K kNoLift = true) (A_NoFloor_floor : PySem.W.findIn K (.ref kNoFloor) "floor" = some none) (A_NoLift_lift : PySem.W.findIn K (.ref kNoLift) "lift" = some none) (c_law_whole : Cal P w K mg base 1 "_law_whole" ["_law_thing"] spWhole) : FnOk P w K mg base CX0 2 f fd ["_law_error"] (spName kNoFloor kNoLift kNoRide kNoDeed) := by
  refine F.ok scLName (fun vs H Q E h => ?_) (fun cdv A outer s H vs Q E hr h => ?_)
  · obtain ⟨e, u, rfl, _⟩ := h
    rfl
  obtain ⟨e, u, rfl, hX, q⟩ := h
  refine ⟨_, (pss_cons (ps_set (i := 1) scLName.nd rfl (Or.inl rfl) (we_lst pa_nil)) (pss_cons (ws_if (wt_tr (K := K) rfl (pe_callBP (w_isiX (K := K) rfl) rfl m_isinstance boot_isinstance (pa_c (wv 0) (pa_c (pe_gref rfl g_NoFloor) pa_nil)))) (pss_one (ps_expr (we_bm (K := K) rfl PySem.F.plainAttrs_list PySem.F.slot_list_append PySem.F.type_list_append w_append (wv 1) (pa_c (we_tup (pa_c pe_str (pa_c (pe_xfld (K := K) rfl (wv 0)) pa_nil))) pa_nil)))) pss_nil) (pss_cons (ws_if (wt_tr (K := K) rfl (pe_callBP (w_isiX (K := K) rfl) rfl m_isinstance boot_isinstance (pa_c (wv 0) (pa_c (pe_gref rfl g_NoLift) pa_nil)))) (pss_one (ps_expr (we_bm (K := K) rfl PySem.F.plainAttrs_list PySem.F.slot_list_append PySem.F.type_list_append w_append (wv 1) (pa_c (we_tup (pa_c pe_str (pa_c (pe_xfld (K := K) rfl (wv 0)) pa_nil))) pa_nil)))) pss_nil) (pss_cons (ws_if (wt_tr (K := K) rfl (pe_callBP (w_isiX (K := K) rfl) rfl m_isinstance boot_isinstance (pa_c (wv 0) (pa_c (pe_gref rfl g_Twice) pa_nil)))) (pss_one (ps_expr (we_bm (K := K) rfl PySem.F.plainAttrs_list PySem.F.slot_list_append PySem.F.type_list_append w_append (wv 1) (pa_c (we_tup (pa_c pe_str (pa_c (pe_xfld (K := K) rfl (wv 0)) pa_nil))) pa_nil)))) pss_nil) (pss_cons (ws_if (wt_tr (K := K) rfl (pe_callBP (w_isiX (K := K) rfl) rfl m_isinstance boot_isinstance (pa_c (wv 0) (pa_c (pe_gref rfl g_NoRide) pa_nil)))) (pss_one (ps_expr (we_bm (K := K) rfl PySem.F.plainAttrs_list PySem.F.slot_list_append PySem.F.type_list_append w_append (wv 1) (pa_c (we_tup (pa_c pe_str (pa_c pe_int pa_nil))) pa_nil)))) pss_nil) (pss_cons (ws_if (wt_tr (K := K) rfl (pe_callBP (w_isiX (K := K) rfl) rfl m_isinstance boot_isinstance (pa_c (wv 0) (pa_c (pe_gref rfl g_NoDeed) pa_nil)))) (pss_one (ps_expr (we_bm (K := K) rfl PySem.F.plainAttrs_list PySem.F.slot_list_append PySem.F.type_list_append w_append (wv 1) (pa_c (we_tup (pa_c pe_str (pa_c pe_int pa_nil))) pa_nil)))) pss_nil) (pss_cons (ws_if (wt_tr (K := K) rfl (pe_callBP (w_isiX (K := K) rfl) rfl m_isinstance boot_isinstance (pa_c (wv 0) (pa_c (pe_gref rfl g_NoDeal) pa_nil)))) (pss_one (ps_expr (we_bm (K := K) rfl PySem.F.plainAttrs_list PySem.F.slot_list_append PySem.F.type_list_append w_append (wv 1) (pa_c (we_tup (pa_c pe_str (pa_c pe_int pa_nil))) pa_nil)))) pss_nil) (pss_cons (ws_if (PW.pt (ww_or (wt_tr (K := K) rfl (pe_callBP (w_isiX (K := K) rfl) rfl m_isinstance boot_isinstance (pa_c (wv 0) (pa_c (pe_gref rfl g_NoHouse) pa_nil)))) (ww_or (wt_tr (K := K) rfl (pe_callBP (w_isiX (K := K) rfl) rfl m_isinstance boot_isinstance (pa_c (wv 0) (pa_c (pe_gref rfl g_NoRule) pa_nil)))) (pw_or1 (wt_tr (K := K) rfl (pe_callBP (w_isiX (K := K) rfl) rfl m_isinstance boot_isinstance (pa_c (wv 0) (pa_c (pe_gref rfl g_NoIll) pa_nil)))))))) (pss_one (ps_expr (we_bm (K := K) rfl PySem.F.plainAttrs_list PySem.F.slot_list_append PySem.F.type_list_append w_append (wv 1) (pa_c (we_tup (pa_c pe_str (pa_c pe_int pa_nil))) pa_nil)))) pss_nil) (pss_cons (ws_if (PW.pt (ww_or (wt_tr (K := K) rfl (pe_callBP (w_isiX (K := K) rfl) rfl m_isinstance boot_isinstance (pa_c (wv 0) (pa_c (pe_gref rfl g_NoLine) pa_nil)))) (ww_or (wt_tr (K := K) rfl (pe_callBP (w_isiX (K := K) rfl) rfl m_isinstance boot_isinstance (pa_c (wv 0) (pa_c (pe_gref rfl g_Empty) pa_nil)))) (pw_or1 (wt_tr (K := K) rfl (pe_callBP (w_isiX (K := K) rfl) rfl m_isinstance boot_isinstance (pa_c (wv 0) (pa_c (pe_gref rfl g_TooMany) pa_nil)))))))) (pss_one (ps_expr (we_bm (K := K) rfl PySem.F.plainAttrs_list PySem.F.slot_list_append PySem.F.type_list_append w_append (wv 1) (pa_c (we_tup (pa_c pe_str (pa_c pe_int pa_nil))) pa_nil)))) pss_nil) (pss_cons (ws_if (PW.pt (ww_or (wt_cmp (w_neA (K := K) rfl hr) (pe_callBP (w_len (K := K) rfl) rfl m_len PySem.boot_len (pa_c (wv 1) pa_nil)) pe_int (nomark _)) (ww_or (pt_not (wt_tr (K := K) rfl (pe_callBP (w_isiX (K := K) rfl) rfl m_isinstance boot_isinstance (pa_c (wv 0) (pa_c (pe_bltn (v := .ty "ValueError") rfl m_ValueError PyProof.Rows.Boot.«ValueError» rfl) pa_nil))))) (pw_or1 (pt_not (wt_tr (K := K) rfl (pe_fnP c_law_whole hr (by decide) rfl (pa_c (pe_ix (w_ix (K := K) rfl) (pe_ix (w_ix (K := K) rfl) (wv 1) pe_int (fun _ _ => rfl)) pe_int (fun _ _ => rfl)) pa_nil)))))))) (pss_one (ps_ret (we_tup (pa_c pe_str (pa_c pe_int pa_nil))))) pss_nil) (pss_one (ps_ret (pe_ix (w_ix (K := K) rfl) (wv 1) pe_int (fun _ _ => rfl)))))))))))))), ?_⟩
  conv => whnf
  refine lstI (szN (by show 0 ≤ 1000000; decide)) fun l H1 s1 n1 e1 => ?_
  cases u with
  | floor i =>
    obtain ⟨d, x0, d0⟩ := hX
    have x1 := s1 _ _ x0
    have d1 := s1 _ _ d0
    conv => whnf
    refine isiAnyXd x1 d1 tF.ek rfl tF.tNoFloor ?_
    conv => whnf
    refine ifB_t rfl ?_
    conv => whnf
    refine ⟨.inl ⟨rfl, _, SqL.of e1⟩, ?_⟩
    conv => whnf
    refine xfldI x1 d1 tF.ek hd_NoFloor A_NoFloor_floor rfl ?_
    conv => whnf
    refine tupI (szN (by show 2 ≤ 1000000; decide)) fun tp H2 s2 n2 e2 => ?_
    conv => whnf
    refine appLI (s2 _ _ e1) (szL (by show 0 < 1000000; decide)) ?_
    have sm : Same H (upd H2 l (.lst ([] ++ [.ref tp]))) := Same.updF (s1.trans s2) n1
    have x2 := sm _ _ x0
    have d2 := sm _ _ d0
    have l2 : upd H2 l (.lst ([] ++ [.ref tp])) l = some (.lst [.ref tp]) := upd_same
    have ltp : tp ≠ l := fun z => by rw [z] at n2; rw [n2] at e1; cases e1
    have t2 : upd H2 l (.lst ([] ++ [.ref tp])) tp = some (.tup [.str tFloor, .int i]) := by rw [upd_ne ltp]; exact e2
    conv => whnf
    refine isiAnyXd x2 d2 tF.ek rfl tF.tNoLift ?_
    conv => whnf
    refine ifB_f rfl ?_
    conv => whnf
    refine isiAnyXd x2 d2 tF.ek rfl tF.tTwice ?_
    conv => whnf
    refine ifB_f rfl ?_
    conv => whnf
    refine isiAnyXd x2 d2 tF.ek rfl tF.tNoRide ?_
    conv => whnf
    refine ifB_f rfl ?_
    conv => whnf
    refine isiAnyXd x2 d2 tF.ek rfl tF.tNoDeed ?_
    conv => whnf
    refine ifB_f rfl ?_
    conv => whnf
    refine isiAnyXd x2 d2 tF.ek rfl tF.tNoDeal ?_
    conv => whnf
    refine ifB_f rfl ?_
    conv => whnf
    refine isiAnyXd x2 d2 tF.ek rfl tF.tNoHouse ?_
    conv => whnf
    refine ifB_f rfl ?_
    conv => whnf
    refine isiAnyXd x2 d2 tF.ek rfl tF.tNoRule ?_
    conv => whnf
    refine ifB_f rfl ?_
    conv => whnf
    refine isiAnyXd x2 d2 tF.ek rfl tF.tNoIll ?_
    conv => whnf
    refine ifB_f rfl ?_
    conv => whnf
    refine isiAnyXd x2 d2 tF.ek rfl tF.tNoLine ?_
    conv => whnf
    refine ifB_f rfl ?_
    conv => whnf
    refine isiAnyXd x2 d2 tF.ek rfl tF.tEmpty ?_
    conv => whnf
    refine ifB_f rfl ?_
    conv => whnf
    refine isiAnyXd x2 d2 tF.ek rfl tF.tTooMany ?_
    conv => whnf
    refine ifB_f rfl ?_
    conv => whnf
    refine seqLenL (SqL.of l2) ?_
    conv => whnf
    refine ifB_f rfl ?_
    conv => whnf
    refine isiAnyXd x2 d2 tF.ek rfl tF.tVE ?_
    conv => whnf
    refine ifB_f rfl ?_
    conv => whnf
    refine seqAtL (SqL.of l2) (v := .ref tp) rfl ?_
    conv => whnf
    refine seqAtT (SqT.of t2) rfl ?_
    conv => whnf
    refine wholeI ?_
    conv => whnf
    refine ifB_f rfl ?_
    conv => whnf
    refine seqAtL (SqL.of l2) (v := .ref tp) rfl ?_
    exact q tp _ sm t2
  | lift i =>
    obtain ⟨d, x0, d0⟩ := hX
    have x1 := s1 _ _ x0
    have d1 := s1 _ _ d0
    conv => whnf
    refine isiAnyXd x1 d1 tL.ek rfl tL.tNoFloor ?_
    conv => whnf
    refine ifB_f rfl ?_
    conv => whnf
    refine isiAnyXd x1 d1 tL.ek rfl tL.tNoLift ?_
    conv => whnf
    refine ifB_t rfl ?_
    conv => whnf
    refine ⟨.inl ⟨rfl, _, SqL.of e1⟩, ?_⟩
    conv => whnf
    refine xfldI x1 d1 tL.ek hd_NoLift A_NoLift_lift rfl ?_
    conv => whnf
    refine tupI (szN (by show 2 ≤ 1000000; decide)) fun tp H2 s2 n2 e2 => ?_
    conv => whnf
    refine appLI (s2 _ _ e1) (szL (by show 0 < 1000000; decide)) ?_
    have sm : Same H (upd H2 l (.lst ([] ++ [.ref tp]))) := Same.updF (s1.trans s2) n1
    have x2 := sm _ _ x0
    have d2 := sm _ _ d0
    have l2 : upd H2 l (.lst ([] ++ [.ref tp])) l = some (.lst [.ref tp]) := upd_same
    have ltp : tp ≠ l := fun z => by rw [z] at n2; rw [n2] at e1; cases e1
    have t2 : upd H2 l (.lst ([] ++ [.ref tp])) tp = some (.tup [.str tLift, .int i]) := by rw [upd_ne ltp]; exact e2
    conv => whnf
    refine isiAnyXd x2 d2 tL.ek rfl tL.tTwice ?_
    conv => whnf
    refine ifB_f rfl ?_
    conv => whnf
    refine isiAnyXd x2 d2 tL.ek rfl tL.tNoRide ?_
    conv => whnf
    refine ifB_f rfl ?_
    conv => whnf
    refine isiAnyXd x2 d2 tL.ek rfl tL.tNoDeed ?_
    conv => whnf
    refine ifB_f rfl ?_
    conv => whnf
    refine isiAnyXd x2 d2 tL.ek rfl tL.tNoDeal ?_
    conv => whnf
    refine ifB_f rfl ?_
    conv => whnf
    refine isiAnyXd x2 d2 tL.ek rfl tL.tNoHouse ?_
    conv => whnf
    refine ifB_f rfl ?_
    conv => whnf
    refine isiAnyXd x2 d2 tL.ek rfl tL.tNoRule ?_
    conv => whnf
    refine ifB_f rfl ?_
    conv => whnf
    refine isiAnyXd x2 d2 tL.ek rfl tL.tNoIll ?_
    conv => whnf
    refine ifB_f rfl ?_
    conv => whnf
    refine isiAnyXd x2 d2 tL.ek rfl tL.tNoLine ?_
    conv => whnf
    refine ifB_f rfl ?_
    conv => whnf
    refine isiAnyXd x2 d2 tL.ek rfl tL.tEmpty ?_
    conv => whnf
    refine ifB_f rfl ?_
    conv => whnf
    refine isiAnyXd x2 d2 tL.ek rfl tL.tTooMany ?_
    conv => whnf
    refine ifB_f rfl ?_
    conv => whnf
    refine seqLenL (SqL.of l2) ?_
    conv => whnf
    refine ifB_f rfl ?_
    conv => whnf
    refine isiAnyXd x2 d2 tL.ek rfl tL.tVE ?_
    conv => whnf
    refine ifB_f rfl ?_
    conv => whnf
    refine seqAtL (SqL.of l2) (v := .ref tp) rfl ?_
    conv => whnf
    refine seqAtT (SqT.of t2) rfl ?_
    conv => whnf
    refine wholeI ?_
    conv => whnf
    refine ifB_f rfl ?_
    conv => whnf
    refine seqAtL (SqL.of l2) (v := .ref tp) rfl ?_
    exact q tp _ sm t2
  | ride =>
    have x0 : H e = some (excO e (.ref kNoRide) none) := hX
    have x1 := s1 _ _ x0
    conv => whnf
    refine isiAnyX x1 tR.ek rfl tR.tNoFloor ?_
    conv => whnf
    refine ifB_f rfl ?_
    conv => whnf
    refine isiAnyX x1 tR.ek rfl tR.tNoLift ?_
    conv => whnf
    refine ifB_f rfl ?_
    conv => whnf
    refine isiAnyX x1 tR.ek rfl tR.tTwice ?_
    conv => whnf
    refine ifB_f rfl ?_
    conv => whnf
    refine isiAnyX x1 tR.ek rfl tR.tNoRide ?_
    conv => whnf
    refine ifB_t rfl ?_
    conv => whnf
    refine ⟨.inl ⟨rfl, _, SqL.of e1⟩, ?_⟩
    conv => whnf
    refine tupI (szN (by show 2 ≤ 1000000; decide)) fun tp H2 s2 n2 e2 => ?_
    conv => whnf
    refine appLI (s2 _ _ e1) (szL (by show 0 < 1000000; decide)) ?_
    have sm : Same H (upd H2 l (.lst ([] ++ [.ref tp]))) := Same.updF (s1.trans s2) n1
    have x2 := sm _ _ x0
    have l2 : upd H2 l (.lst ([] ++ [.ref tp])) l = some (.lst [.ref tp]) := upd_same
    have ltp : tp ≠ l := fun z => by rw [z] at n2; rw [n2] at e1; cases e1
    have t2 : upd H2 l (.lst ([] ++ [.ref tp])) tp = some (.tup [.str tRide, .int 0]) := by rw [upd_ne ltp]; exact e2
    conv => whnf
    refine isiAnyX x2 tR.ek rfl tR.tNoDeed ?_
    conv => whnf
    refine ifB_f rfl ?_
    conv => whnf
    refine isiAnyX x2 tR.ek rfl tR.tNoDeal ?_
    conv => whnf
    refine ifB_f rfl ?_
    conv => whnf
    refine isiAnyX x2 tR.ek rfl tR.tNoHouse ?_
    conv => whnf
    refine ifB_f rfl ?_
    conv => whnf
    refine isiAnyX x2 tR.ek rfl tR.tNoRule ?_
    conv => whnf
    refine ifB_f rfl ?_
    conv => whnf
    refine isiAnyX x2 tR.ek rfl tR.tNoIll ?_
    conv => whnf
    refine ifB_f rfl ?_
    conv => whnf
    refine isiAnyX x2 tR.ek rfl tR.tNoLine ?_
    conv => whnf
    refine ifB_f rfl ?_
    conv => whnf
    refine isiAnyX x2 tR.ek rfl tR.tEmpty ?_
    conv => whnf
    refine ifB_f rfl ?_
    conv => whnf
    refine isiAnyX x2 tR.ek rfl tR.tTooMany ?_
    conv => whnf
    refine ifB_f rfl ?_
    conv => whnf
    refine seqLenL (SqL.of l2) ?_
    conv => whnf
    refine ifB_f rfl ?_
    conv => whnf
    refine isiAnyX x2 tR.ek rfl tR.tVE ?_
    conv => whnf
    refine ifB_f rfl ?_
    conv => whnf
    refine seqAtL (SqL.of l2) (v := .ref tp) rfl ?_
    conv => whnf
    refine seqAtT (SqT.of t2) rfl ?_
    conv => whnf
    refine wholeI ?_
    conv => whnf
    refine ifB_f rfl ?_
    conv => whnf
    refine seqAtL (SqL.of l2) (v := .ref tp) rfl ?_
    exact q tp _ sm t2
  | deed =>
    have x0 : H e = some (excO e (.ref kNoDeed) none) := hX
    have x1 := s1 _ _ x0
    conv => whnf
    refine isiAnyX x1 tD.ek rfl tD.tNoFloor ?_
    conv => whnf
    refine ifB_f rfl ?_
    conv => whnf
    refine isiAnyX x1 tD.ek rfl tD.tNoLift ?_
    conv => whnf
    refine ifB_f rfl ?_
    conv => whnf
    refine isiAnyX x1 tD.ek rfl tD.tTwice ?_
    conv => whnf
    refine ifB_f rfl ?_
    conv => whnf
    refine isiAnyX x1 tD.ek rfl tD.tNoRide ?_
    conv => whnf
    refine ifB_f rfl ?_
    conv => whnf
    refine isiAnyX x1 tD.ek rfl tD.tNoDeed ?_
    conv => whnf
    refine ifB_t rfl ?_
    conv => whnf
    refine ⟨.inl ⟨rfl, _, SqL.of e1⟩, ?_⟩
    conv => whnf
    refine tupI (szN (by show 2 ≤ 1000000; decide)) fun tp H2 s2 n2 e2 => ?_
    conv => whnf
    refine appLI (s2 _ _ e1) (szL (by show 0 < 1000000; decide)) ?_
    have sm : Same H (upd H2 l (.lst ([] ++ [.ref tp]))) := Same.updF (s1.trans s2) n1
    have x2 := sm _ _ x0
    have l2 : upd H2 l (.lst ([] ++ [.ref tp])) l = some (.lst [.ref tp]) := upd_same
    have ltp : tp ≠ l := fun z => by rw [z] at n2; rw [n2] at e1; cases e1
    have t2 : upd H2 l (.lst ([] ++ [.ref tp])) tp = some (.tup [.str tDeed, .int 0]) := by rw [upd_ne ltp]; exact e2
    conv => whnf
    refine isiAnyX x2 tD.ek rfl tD.tNoDeal ?_
    conv => whnf
    refine ifB_f rfl ?_
    conv => whnf
    refine isiAnyX x2 tD.ek rfl tD.tNoHouse ?_
    conv => whnf
    refine ifB_f rfl ?_
    conv => whnf
    refine isiAnyX x2 tD.ek rfl tD.tNoRule ?_
    conv => whnf
    refine ifB_f rfl ?_
    conv => whnf
    refine isiAnyX x2 tD.ek rfl tD.tNoIll ?_
    conv => whnf
    refine ifB_f rfl ?_
    conv => whnf
    refine isiAnyX x2 tD.ek rfl tD.tNoLine ?_
    conv => whnf
    refine ifB_f rfl ?_
    conv => whnf
    refine isiAnyX x2 tD.ek rfl tD.tEmpty ?_
    conv => whnf
    refine ifB_f rfl ?_
    conv => whnf
    refine isiAnyX x2 tD.ek rfl tD.tTooMany ?_
    conv => whnf
    refine ifB_f rfl ?_
    conv => whnf
    refine seqLenL (SqL.of l2) ?_
    conv => whnf
    refine ifB_f rfl ?_
    conv => whnf
    refine isiAnyX x2 tD.ek rfl tD.tVE ?_
    conv => whnf
    refine ifB_f rfl ?_
    conv => whnf
    refine seqAtL (SqL.of l2) (v := .ref tp) rfl ?_
    conv => whnf
    refine seqAtT (SqT.of t2) rfl ?_
    conv => whnf
    refine wholeI ?_
    conv => whnf
    refine ifB_f rfl ?_
    conv => whnf
    refine seqAtL (SqL.of l2) (v := .ref tp) rfl ?_
    exact q tp _ sm t2
  | good => exact hX.elim
seal spName
/-- what the try suite may raise -/
def Xm (kF kL kR kD : Addr) (H : Hp) (cls : Value) (dd : Option Addr) : Du → Prop
  | .floor i => cls = .ref kF ∧ ∃ d, dd = some d ∧ H d = some (.xd [(tFloor, .int i)])
  | .lift i => cls = .ref kL ∧ ∃ d, dd = some d ∧ H d = some (.xd [(tLift, .int i)])
  | .ride => cls = .ref kR ∧ dd = none
  | .deed => cls = .ref kD ∧ dd = none
  | .good => False
def spRead (K : PySem.W.Frag) : Sp := fun vs H Q _ => ∃ x h fl n, vs = [.str x, .ref h] ∧ TX x ∧ HsAt K H h fl n ∧ ∀ r H', Same H H' → YR H H' r (rdDy fl n x) → Q (.ref r) H'
theorem readI {H : Hp} {h : Addr} {fl : Int} {n : Nat} {x : Str} {Q : VK} {E : XK} (h1 : TX x) (h2 : HsAt K H h fl n) (g : ∀ r H', Same H H' → YR H H' r (rdDy fl n x) → Q (.ref r) H') : spRead K [.str x, .ref h] H Q E := ⟨x, h, fl, n, rfl, h1, h2, g⟩
theorem ok_read {kF kL kR kD kCE : Addr} (F : Fun K "_law_read" "_law_read" sLRead f fd) (g_CourtError : mg "CourtError" = some (.ref kCE)) (e_CourtError : Exc0 K kCE) (cF : CatchesJ K (.ref kF) kCE) (cL : CatchesJ K (.ref kL) kCE) (cR : CatchesJ K (.ref kR) kCE) (cD : CatchesJ K (.ref kD) kCE) (x_read_day : CalX P w K mg base 7 "read_day" ["text", "house"] (spRDay K kF kL kR kD)) (c_law_name : Cal P w K mg base 2 "_law_name" ["_law_error"] (spName kF kL kR kD)) : FnOk P w K mg base CX0 8 f fd ["_law_text", "_law_house_here"] (spRead K) := by
  refine F.ok scLRead (fun vs H Q E h => ?_) (fun cdv A outer s H vs Q E hr h => ?_)
  · obtain ⟨x, h, fl, n, rfl, _⟩ := h
    rfl
  obtain ⟨x, h, fl, n, rfl, hx, hh, q⟩ := h
  have hne := rdDy_ne (fl := fl) (n := n) (x := x)
  refine ⟨_, (pss_cons (ps_set (i := 2) scLRead.nd rfl (Or.inl rfl) pe_non) (pss_cons (ps_set (i := 3) scLRead.nd rfl (Or.inl rfl) pe_non) (pss_cut (ps_tryAsJ (j := 4) rfl rfl e_CourtError rfl g_CourtError scLRead.nd rfl rfl (psx_set (i := 2) scLRead.nd rfl (Or.inl rfl) (px_fn rfl x_read_day hr (by decide) rfl (pa_c (wv 0) (pa_c (wv 1) pa_nil)))) (fun a => (pss_one (ps_set (i := 3) scLRead.nd rfl (Or.inl rfl) (wv 4))))) (pss_cons (ws_if (wt_cmp w_notN (wv 3) pe_non (nomark _)) (pss_one (ps_ret (pe_fnP c_law_name hr (by decide) rfl (pa_c (wv 3) pa_nil)))) pss_nil) (pss_one (ps_ret (we_tup (pa_c pe_str (pa_c (wv 2) pa_nil))))))))), ?_⟩
  conv => whnf
  refine cutI (fun σ H' => Same H H' ∧ ((∃ dss l as, rdDy fl n x = .inl dss ∧ H l = none ∧ H' l = some (.lst (as.map V.ref)) ∧ DyAt H' as dss ∧ (∀ a ∈ as, H a = none) ∧ σ = [some (.str x), some (.ref h), some (.ref l), some .non, none]) ∨ ∃ u e, rdDy fl n x = .inr u ∧ σ = [some (.str x), some (.ref h), some .non, some (.ref e), none] ∧ XcAt kF kL kR kD H' e u)) ?_ ?_
  · refine ⟨fun cls dd H1 => Same H H1 ∧ ∃ u, rdDy fl n x = .inr u ∧ Xm kF kL kR kD H1 cls dd u, ?_, ?_⟩
    · have told : ∀ (Q' : VK) (E' : XK), (∀ dss l as H', rdDy fl n x = .inl dss → Same H H' → H l = none → H' l = some (.lst (as.map V.ref)) → DyAt H' as dss → (∀ a ∈ as, H a = none) → Q' (.ref l) H') → (∀ cls dd H1, (Same H H1 ∧ ∃ u, rdDy fl n x = .inr u ∧ Xm kF kL kR kD H1 cls dd u) → E' cls dd H1) → TellsY kF kL kR kD H Q' E' (rdDy fl n x) := by
        intro Q' E' g1 g2
        cases hr : rdDy fl n x with
        | inl ds => exact fun l xs H' sm nl el hd ha => g1 ds l xs H' hr sm nl el hd ha
        | inr u =>
          cases u with
          | good => exact absurd hr hne
          | floor i => exact fun d H' sm ed => g2 _ _ _ ⟨sm, _, hr, rfl, d, rfl, ed⟩
          | lift i => exact fun d H' sm ed => g2 _ _ _ ⟨sm, _, hr, rfl, d, rfl, ed⟩
          | ride => exact fun H' sm => g2 _ _ _ ⟨sm, _, hr, rfl, rfl⟩
          | deed => exact fun H' sm => g2 _ _ _ ⟨sm, _, hr, rfl, rfl⟩
      conv => whnf
      refine rdayI hx hh (told _ _ (fun ds l xs H' e sm nl el hd ha => ?_) (fun cls dd H1 z => z))
      exact ⟨sm, .inl ⟨ds, l, xs, e, nl, el, hd, ha, rfl⟩⟩
    · rintro cls dd H1 ⟨sm, u, hu, xm⟩
      have fin : ∀ (cls : Value) (dd : Option Addr), CatchesJ K cls kCE → (∀ e, H1 e = none → XcAt kF kL kR kD (upd H1 e (excO e cls dd)) e u) → CatchesJ K cls kCE ∧ ∀ e, H1 e = none → Same H (upd H1 e (excO e cls dd)) ∧ XcAt kF kL kR kD (upd H1 e (excO e cls dd)) e u := fun cls dd c g => ⟨c, fun e ne => ⟨sm.trans (.upd ne), g e ne⟩⟩
      have got : CatchesJ K cls kCE ∧ ∀ e, H1 e = none → Same H (upd H1 e (excO e cls dd)) ∧ XcAt kF kL kR kD (upd H1 e (excO e cls dd)) e u := by
        cases u with
        | good => exact xm.elim
        | floor i =>
          obtain ⟨rfl, d, rfl, ed⟩ := xm
          exact fin _ _ cF fun e ne => ⟨d, upd_same, by rw [upd_ne (fun z => by rw [z, ne] at ed; cases ed)]; exact ed⟩
        | lift i =>
          obtain ⟨rfl, d, rfl, ed⟩ := xm
          exact fin _ _ cL fun e ne => ⟨d, upd_same, by rw [upd_ne (fun z => by rw [z, ne] at ed; cases ed)]; exact ed⟩
        | ride =>
          obtain ⟨rfl, rfl⟩ := xm
          exact fin _ _ cR fun e ne => upd_same
        | deed =>
          obtain ⟨rfl, rfl⟩ := xm
          exact fin _ _ cD fun e ne => upd_same
      refine ⟨got.1, fun e ne => ?_⟩
      conv => whnf
      obtain ⟨g1, g2⟩ := got.2 e ne
      exact ⟨g1, .inr ⟨u, e, hu, rfl, g2⟩⟩
  rintro σ' H' ⟨sm, ⟨dss, l, as, hg, nl, el, hd, ha, rfl⟩ | ⟨u, e, hu, rfl, hx⟩⟩
  · rw [hg] at q
    conv => whnf
    refine ifB_f rfl ?_
    conv => whnf
    exact tupI (szN (by show 2 ≤ 1000000; decide)) fun r H2 s2 n2 e2 => q r H2 (sm.trans s2) ⟨l, as, e2, s2 _ _ el, DyAt.same hd s2, nl, ha⟩
  · rw [hu] at q
    have une : u ≠ .good := fun z => hne (by rw [hu, z])
    conv => whnf
    refine ifB_t rfl ?_
    conv => whnf
    exact nameI hx fun r H2 s2 e2 => q r H2 (sm.trans s2) ⟨e2, une⟩
seal spRead
def spRight (K : PySem.W.Frag) : Sp := fun vs H Q _ => ∃ r r' X X' x, vs = [.ref r, .ref r'] ∧ YR X H r x ∧ YR X' H r' x ∧ (∀ dss, x = .inl dss → dss.length ≤ 100000 ∧ ∀ ds ∈ dss, ds.length ≤ 1000000) ∧ ∀ H', Same H H' → Q (.bl true) H'
theorem rightI {H X X' : Hp} {r r' : Addr} {x : List (List Dd) ⊕ Du} {Q : VK} {E : XK} (h1 : YR X H r x) (h2 : YR X' H r' x) (h3 : ∀ dss, x = .inl dss → dss.length ≤ 100000 ∧ ∀ ds ∈ dss, ds.length ≤ 1000000) (g : ∀ H', Same H H' → Q (.bl true) H') : spRight K [.ref r, .ref r'] H Q E := ⟨r, r', X, X', x, rfl, h1, h2, h3, g⟩
theorem ok_right (F : Fun K "_law_right" "_law_right" sLRight f fd) (m_isinstance : mg "isinstance" = none) (m_list : mg "list" = none) (m_len : mg "len" = none) (m_range : mg "range" = none) (c_law_same : Cal P w K mg base 2 "_law_same" ["_law_told", "_law_due"] (spSame K)) : FnOk P w K mg base CX0 3 f fd ["_law_found", "_law_due"] (spRight K) := by
  refine F.ok scLRight (fun vs H Q E h => ?_) (fun cdv A outer s H vs Q E hr h => ?_)
  · obtain ⟨r, r', X, X', x, rfl, _⟩ := h
    rfl
  obtain ⟨r, r', X, X', x, rfl, h1, h2, hz, q⟩ := h
  refine ⟨_, (pss_cons (ws_if (wt_cmp (w_neA (K := K) rfl hr) (pe_ix (w_ix (K := K) rfl) (wv 1) pe_int (fun _ _ => rfl)) pe_str (nomark _)) (pss_one (ps_ret (pe_cmpR (w_eqA (K := K) rfl hr) (wv 0) (wv 1) (nomark _)))) pss_nil) (pss_cons (ws_if (PW.pt (ww_or (wt_cmp (w_neA (K := K) rfl hr) (pe_ix (w_ix (K := K) rfl) (wv 0) pe_int (fun _ _ => rfl)) pe_str (nomark _)) (ww_or (pt_not (wt_tr (K := K) rfl (pe_callBP (w_isiX (K := K) rfl) rfl m_isinstance boot_isinstance (pa_c (pe_ix (w_ix (K := K) rfl) (wv 0) pe_int (fun _ _ => rfl)) (pa_c (pe_bltn (v := .ty "list") rfl m_list boot_list rfl) pa_nil))))) (pw_or1 (wt_cmp (w_neA (K := K) rfl hr) (pe_callBP (w_len (K := K) rfl) rfl m_len PySem.boot_len (pa_c (pe_ix (w_ix (K := K) rfl) (wv 0) pe_int (fun _ _ => rfl)) pa_nil)) (pe_callBP (w_len (K := K) rfl) rfl m_len PySem.boot_len (pa_c (pe_ix (w_ix (K := K) rfl) (wv 1) pe_int (fun _ _ => rfl)) pa_nil)) (nomark _)))))) (pss_one (ps_ret pe_bl)) pss_nil) (pss_cons (ws_for PassesOwn.never rfl (wi_range1 rfl m_range (pa_c (pe_callBP (w_len (K := K) rfl) rfl m_len PySem.boot_len (pa_c (pe_ix (w_ix (K := K) rfl) (wv 1) pe_int (fun _ _ => rfl)) pa_nil)) pa_nil)) (pg_name (i := 2) scLRight.nd rfl (Or.inl rfl)) (pss_one (ws_if (pt_not (wt_tr (K := K) rfl (pe_fnP c_law_same hr (by decide) rfl (pa_c (pe_ix (w_ix (K := K) rfl) (pe_ix (w_ix (K := K) rfl) (wv 0) pe_int (fun _ _ => rfl)) (wv 2) (fun _ _ => rfl)) (pa_c (pe_ix (w_ix (K := K) rfl) (pe_ix (w_ix (K := K) rfl) (wv 1) pe_int (fun _ _ => rfl)) (wv 2) (fun _ _ => rfl)) pa_nil))))) (pss_one (ps_ret pe_bl)) pss_nil))) (pss_one (ps_ret pe_bl))))), ?_⟩
  cases x with
  | inr u =>
    obtain ⟨e1, ne⟩ := h1
    obtain ⟨e2, _⟩ := h2
    obtain ⟨nm, iv, ev, hne⟩ := bad_name ne
    rw [ev] at e1 e2
    have T1 := SqT.of (K := K) e1
    have T2 := SqT.of (K := K) e2
    conv => whnf
    refine seqAtT T2 (v := .str nm) rfl ?_
    conv => whnf
    refine ifB_t (by show (!decide (nm = tGood)) = true; rw [decide_eq_false hne]; rfl) ?_
    conv => whnf
    exact eqRefT (d := .tup [.str nm, .int iv]) (denT T1 (.cons (.str _) (.cons (.int _) .nil))) (denT T2 (.cons (.str _) (.cons (.int _) .nil))) (by simp [dep, deps]) (q H (.refl _))
  | inl dss =>
    obtain ⟨l, as, e1, el, hd, _⟩ := h1
    obtain ⟨l', as', e2, el', hd', _⟩ := h2
    obtain ⟨z1, z2⟩ := hz dss rfl
    have x1 := hd.len
    have x2 := hd'.len
    have T1 := SqT.of (K := K) e1
    have T2 := SqT.of (K := K) e2
    conv => whnf
    refine seqAtT T2 (v := .str tGood) rfl ?_
    conv => whnf
    refine ifB_f rfl ?_
    conv => whnf
    refine seqAtT T1 (v := .str tGood) rfl ?_
    conv => whnf
    refine ifB_f rfl ?_
    conv => whnf
    refine seqAtT T1 (v := .ref l) rfl ?_
    conv => whnf
    refine isiAnyI rfl (.lst el) rfl ?_
    conv => whnf
    refine ifB_f rfl ?_
    conv => whnf
    refine seqAtT T1 (v := .ref l) rfl ?_
    conv => whnf
    refine seqLenL (SqL.of el) ?_
    conv => whnf
    refine seqAtT T2 (v := .ref l') rfl ?_
    conv => whnf
    refine seqLenL (SqL.of el') ?_
    conv => whnf
    refine ifB_f (by rw [List.length_map, List.length_map, x1, x2]; simp) ?_
    conv => whnf
    refine seqAtT T2 (v := .ref l') rfl ?_
    conv => whnf
    refine seqLenL (SqL.of el') ?_
    conv => whnf
    have lr : ((as'.map V.ref).length : Int) = as'.length := by rw [List.length_map]
    refine ⟨⟨by omega, by omega⟩, ?_⟩
    refine forW_range (fun i σ HX => Same H HX ∧ ∃ o1, σ = [some (.ref r), some (.ref r'), o1]) ⟨.refl _, _, rfl⟩ (fun i σ HX hi pv => ?_) (fun σ HX pv => ?_)
    · obtain ⟨sx, o1, rfl⟩ := pv
      have hi : i < as'.length := by omega
      have i0 : (0 : Int) + (i : Nat) = ((i : Nat) : Int) := by omega
      rw [i0]
      obtain ⟨a', ha'⟩ : ∃ y, as'[i]? = some y := ⟨_, List.getElem?_eq_getElem hi⟩
      obtain ⟨ds, hdi, ys', ey', hy'⟩ := hd'.get1 ha'
      obtain ⟨a, ha, ys, ey, hy⟩ := hd.get2 hdi
      have hbr : (as.map V.ref)[i]? = some (.ref a) := by rw [List.getElem?_map, ha]; rfl
      have hbr' : (as'.map V.ref)[i]? = some (.ref a') := by rw [List.getElem?_map, ha']; rfl
      conv => whnf
      refine seqAtT (sx.seqT T1) (v := .ref l) rfl ?_
      conv => whnf
      refine seqAtL (sx.seq (SqL.of el)) (atI_nat hbr) ?_
      conv => whnf
      refine seqAtT (sx.seqT T2) (v := .ref l') rfl ?_
      conv => whnf
      refine seqAtL (sx.seq (SqL.of el')) (atI_nat hbr') ?_
      conv => whnf
      refine sameI (sx _ _ ey) (sx _ _ ey') (DsAt.same hy sx) (DsAt.same hy' sx) (z2 ds (List.mem_of_getElem? hdi)) fun H2 s2 => ?_
      conv => whnf
      refine ifB_f rfl ?_
      exact ⟨sx.trans s2, _, rfl⟩
    obtain ⟨sx, o1, rfl⟩ := pv
    conv => whnf
    exact q HX sx
seal spRight
theorem rdY_each {fl : Int} {n : Nat} : ∀ {ps : List Str} {t : Int} {dss : List (List Dd)}, (∀ p ∈ ps, TX p) → rdY fl n ps t = .inl dss → ∀ ds ∈ dss, ds.length ≤ 100000
  | [], _, dss, _, h => by cases h; exact fun ds hd => nomatch hd
  | p :: ps, t, dss, hp, h => by
    cases hd : rdS fl n p t with
    | inr u => rw [rdY_bad hd] at h; cases h
    | inl ds =>
      have e := rdY_go (ps := ps) [] hd
      rw [h] at e
      cases y : rdY fl n ps (t + (nC ds : Nat)) with
      | inl es =>
        rw [y] at e
        have e : ([] ++ dss) = ([] ++ [ds]) ++ es := Sum.inl.inj e
        rw [show dss = ds :: es from e]
        intro x hx
        rcases List.mem_cons.mp hx with rfl | hx
        · exact rdS_len (hp p (.head _)) _ hd
        · exact rdY_each (fun q hq => hp q (.tail _ hq)) y x hx
      | inr u => rw [y] at e; cases e
theorem rdDy_len {fl : Int} {n : Nat} {x : Str} (h : TX x) : ∀ dss, rdDy fl n x = .inl dss → dss.length ≤ 100000 ∧ ∀ ds ∈ dss, ds.length ≤ 1000000 := by
  intro dss e
  unfold rdDy at e
  have h1 := rdY_len e
  have h2 := split_len2 (y := smS) h
  refine ⟨by unfold sms at h1; omega, fun ds hd => Nat.le_trans (rdY_each (fun p hp => h.part hp) e ds hd) (by decide)⟩
theorem rdDy_pos {fl : Int} {n : Nat} {x : Str} {dss : List (List Dd)} (e : rdDy fl n x = .inl dss) : 1 ≤ dss.length := by
  unfold rdDy at e
  rw [rdY_len e]
  exact split_len1
def dyD (dss : List (List Dd)) : D := .lst (dss.map fun ds => .lst (ds.map ddD))
theorem den_dy {H : Hp} : ∀ {as : List Addr} {dss : List (List Dd)}, DyAt H as dss → Dens K H (as.map V.ref) (dss.map fun ds => D.lst (ds.map ddD))
  | _, _, .nil => .nil
  | _, _, .cons ⟨ys, e, z⟩ r => .cons (denL (SqL.of e) (den_ds z)) (den_dy r)
theorem deps_dy : ∀ dss : List (List Dd), deps (dss.map fun ds => D.lst (ds.map ddD)) ≤ 2
  | [] => by simp [deps]
  | ds :: dss => by have := deps_dy dss; have := deps_dd ds; simp only [List.map_cons, deps, dep]; omega
def spLaw (K : PySem.W.Frag) : Sp := fun vs H Q _ => ∃ (a : Addr) (ns : List Int), vs = [.ref a] ∧ ScB K H a ns ∧ ∀ H', Q (.bl true) H'
theorem ok_law (F : Fun K "law" "law" sLaw f fd) (m_isinstance : mg "isinstance" = none) (m_str : mg "str" = none) (m_list : mg "list" = none) (c_law_house : Cal P w K mg base 4 "_law_house" ["_law_script", "_law_most"] (spHouse K)) (c_law_day : Cal P w K mg base 5 "_law_day" ["_law_script", "_law_house_here"] (spLDay K)) (c_shown_day : Cal P w K mg base 3 "shown_day" ["day"] (spSDay K)) (c_law_shown : Cal P w K mg base 2 "_law_shown" ["_law_deeds"] (spSTurn K)) (c_law_bent : Cal P w K mg base 3 "_law_bent" ["_law_script", "_law_text"] (spBent K)) (c_law_day_read : Cal P w K mg base 5 "_law_day_read" ["_law_text", "_law_house_here"] (spLDyR K)) (c_law_read : Cal P w K mg base 8 "_law_read" ["_law_text", "_law_house_here"] (spRead K)) (c_law_right : Cal P w K mg base 3 "_law_right" ["_law_found", "_law_due"] (spRight K)) : FnOk P w K mg base CX0 9 f fd ["_law_script"] (spLaw K) := by
  refine F.ok scLaw (fun vs H Q E h => ?_) (fun cdv A outer s H vs Q E hr h => ?_)
  · obtain ⟨a, ns, rfl, _⟩ := h
    rfl
  obtain ⟨a, ns, rfl, hS, q⟩ := h
  refine ⟨_, (pss_cons (ps_set (i := 1) scLaw.nd rfl (Or.inl rfl) (pe_fnP c_law_house hr (by decide) rfl (pa_c (wv 0) (pa_c pe_int pa_nil)))) (pss_cons (ps_set (i := 2) scLaw.nd rfl (Or.inl rfl) (pe_fnP c_law_day hr (by decide) rfl (pa_c (wv 0) (pa_c (wv 1) pa_nil)))) (pss_cons (ws_setC (i := 3) rfl scLaw.nd rfl (Or.inl rfl) (comp_scope (N' := ["_law_deeds"]) (pk := [none]) (by kernel_rfl)) (wi_seq (K := K) rfl (wv 2)) (fun C s H ex => (pg_name (i := 0) (show List.Nodup (["_law_deeds"] : List Str) by decide +kernel) rfl (Or.inl rfl))) (fun C s H ex => pts_nil) (fun C s H ex => (pe_callTyP (w_list (K := K) rfl) rfl m_list boot_list (pa_c (wv 0) pa_nil)))) (pss_cons (ps_set (i := 4) scLaw.nd rfl (Or.inl rfl) (pe_fnP c_shown_day hr (by decide) rfl (pa_c (wv 3) pa_nil))) (pss_cons (ws_if (PW.pt (ww_or (pt_not (wt_tr (K := K) rfl (pe_callBP (w_isiX (K := K) rfl) rfl m_isinstance boot_isinstance (pa_c (wv 4) (pa_c (pe_bltn (v := .ty "str") rfl m_str boot_str rfl) pa_nil))))) (ww_or (wt_cmp (w_neA (K := K) rfl hr) (wv 4) (we_bm (K := K) rfl PySem.F.plainAttrs_str PySem.F.slot_str_join PySem.F.type_str_join (w_join (K := K) rfl) pe_str (pa_c (we_comp rfl (comp_scope (N' := ["_law_deeds"]) (pk := [none]) (by kernel_rfl)) (wi_seq (K := K) rfl (wv 2)) (fun C s H ex => (pg_name (i := 0) (show List.Nodup (["_law_deeds"] : List Str) by decide +kernel) rfl (Or.inl rfl))) (fun C s H ex => pts_nil) (fun C s H ex => (pe_fnP c_law_shown hr (by decide) rfl (pa_c (wv 0) pa_nil)))) pa_nil)) (nomark _)) (pw_or1 (wt_cmp (w_neA (K := K) rfl hr) (wv 3) (wv 2) (nomark _)))))) (pss_one (ps_ret pe_bl)) pss_nil) (pss_cons (ps_set (i := 5) scLaw.nd rfl (Or.inl rfl) (pe_fnP c_law_bent hr (by decide) rfl (pa_c (wv 0) (pa_c (wv 4) pa_nil)))) (pss_cons (ps_set (i := 6) scLaw.nd rfl (Or.inl rfl) (pe_fnP c_law_day_read hr (by decide) rfl (pa_c (wv 5) (pa_c (wv 1) pa_nil)))) (pss_cons (ps_set (i := 7) scLaw.nd rfl (Or.inl rfl) (pe_fnP c_law_read hr (by decide) rfl (pa_c (wv 5) (pa_c (wv 1) pa_nil)))) (pss_cons (ws_if (pt_not (wt_tr (K := K) rfl (pe_fnP c_law_right hr (by decide) rfl (pa_c (wv 7) (pa_c (wv 6) pa_nil))))) (pss_one (ps_ret pe_bl)) pss_nil) (pss_cut (ws_if (wt_cmp (w_eqA (K := K) rfl hr) (pe_ix (w_ix (K := K) rfl) (wv 7) pe_int (fun _ _ => rfl)) pe_str (nomark _)) (pss_cons (ps_expr (we_bm (K := K) rfl PySem.F.plainAttrs_list PySem.F.slot_list_append PySem.F.type_list_append w_append (pe_ix (w_ix (K := K) rfl) (pe_ix (w_ix (K := K) rfl) (wv 7) pe_int (fun _ _ => rfl)) pe_int (fun _ _ => rfl)) (pa_c (we_tup (pa_c pe_str pa_nil)) pa_nil))) (pss_one (ps_expr (we_bm (K := K) rfl PySem.F.plainAttrs_list PySem.F.slot_list_append PySem.F.type_list_append w_append (pe_ix (w_ix (K := K) rfl) (wv 7) pe_int (fun _ _ => rfl)) (pa_c (we_lst pa_nil) pa_nil))))) pss_nil) (pss_cons (ps_set (i := 8) scLaw.nd rfl (Or.inl rfl) (pe_fnP c_law_day_read hr (by decide) rfl (pa_c (wv 4) (pa_c (wv 1) pa_nil)))) (pss_cons (ws_if (PW.pt (ww_or (wt_cmp (w_neA (K := K) rfl hr) (pe_ix (w_ix (K := K) rfl) (wv 8) pe_int (fun _ _ => rfl)) pe_str (nomark _)) (pw_or1 (pt_not (wt_tr (K := K) rfl (pe_fnP c_law_right hr (by decide) rfl (pa_c (pe_fnP c_law_read hr (by decide) rfl (pa_c (wv 4) (pa_c (wv 1) pa_nil))) (pa_c (wv 8) pa_nil)))))))) (pss_one (ps_ret pe_bl)) pss_nil) (pss_one (ps_ret (pe_fnP c_law_right hr (by decide) rfl (pa_c (pe_fnP c_law_read hr (by decide) rfl (pa_c (wv 5) (pa_c (wv 1) pa_nil))) (pa_c (wv 6) pa_nil))))))))))))))))), ?_⟩
  conv => whnf
  refine houseI hS fun h fl n H1 s1 hh => ?_
  have f8 : fl ≤ 8 := by obtain ⟨_, _, _, _, _, _, _, _, z, _⟩ := hh; exact z
  have n3 : n ≤ 3 := by obtain ⟨_, _, _, _, _, _, _, _, _, _, z⟩ := hh; exact z
  have hS1 := hS.same s1
  conv => whnf
  refine ldayI hS1 hh fun l as dss H4 s4 e4 hd4 hf d1 d9 d81 => ?_
  have h60 : ∀ ds ∈ dss, ds.length ≤ 90 := fun ds hd => by have := len_tot hd; omega
  have hS4 := hS1.same s4
  have hh4 := hh.same s4
  have dlen := hd4.len
  conv => whnf
  refine itSeqL (SqL.of e4) ?_
  refine comp_list (xs := as.map V.ref) (fun i zs HX => Same H4 HX ∧ ∃ bs : List Addr, zs = bs.map V.ref ∧ bs.length ≤ i ∧ DyAt HX bs (dss.take i)) (szN (by rw [List.length_map]; omega)) (fun i zs HX p => by obtain ⟨_, bs, rfl, e, _⟩ := p; rw [List.length_map]; exact e) ⟨.refl _, [], rfl, Nat.le_refl _, .nil⟩ (fun i zs HX _ p => p.1.seq (SqL.of e4)) (fun i x zs HX hxi p => ?_) (fun zs HX p l5 n5 => ?_)
  · obtain ⟨sx, bs, rfl, hbl, hbd⟩ := p
    rw [List.getElem?_map] at hxi
    obtain ⟨b, hb, rfl⟩ := Option.map_eq_some_iff.mp hxi
    obtain ⟨ds, hdi, ys, ey, hy⟩ := hd4.get1 hb
    conv => whnf
    refine ⟨sup_set, ?_⟩
    conv => whnf
    refine listLA' (.inl (sx.seq (SqL.of ey))) fun c H2 s2 n2 e2 => ⟨sx.trans s2, bs ++ [c], by rw [List.map_append]; rfl, by simp; omega, ?_⟩
    rw [List.take_add_one, hdi]
    exact Paired.app (DyAt.same hbd s2) (.cons ⟨ys, e2, (DsAt.same hy sx).same s2⟩ .nil)
  obtain ⟨sx, bs, rfl, hbl, hbd⟩ := p
  rw [List.length_map, List.take_of_length_le (by omega)] at hbd
  generalize hH5 : upd HX l5 (.lst (bs.map V.ref)) = H5
  have s5 : Same HX H5 := by rw [← hH5]; exact .upd n5
  have e5 : H5 l5 = some (.lst (bs.map V.ref)) := by rw [← hH5]; exact upd_same
  clear hH5
  have hb5 := DyAt.same hbd s5
  conv => whnf
  refine sdayI (SqL.of e5) hb5 hf f8 n3 d9 h60 fun H6 s6 => ?_
  conv => whnf
  refine ⟨rfl, ?_⟩
  conv => whnf
  refine ifB_f rfl ?_
  have s46 := (sx.trans s5).trans s6
  conv => whnf
  refine ⟨rfl, ?_⟩
  conv => whnf
  refine itSeqL (SqL.of (s46 _ _ e4)) ?_
  refine comp_list (xs := as.map V.ref) (fun i zs HY => Same H6 HY ∧ zs = ((dss.map shT).take i).map V.str) (szN (by rw [List.length_map]; omega)) (fun i zs HY p => by rw [p.2, List.length_map, List.length_take]; exact Nat.min_le_left _ _) ⟨.refl _, rfl⟩ (fun i zs HY _ p => p.1.seq (SqL.of (s46 _ _ e4))) (fun i x zs HY hxi p => ?_) (fun zs HY p a3 n3' => ?_)
  · obtain ⟨sy, rfl⟩ := p
    rw [List.getElem?_map] at hxi
    obtain ⟨b, hb, rfl⟩ := Option.map_eq_some_iff.mp hxi
    obtain ⟨ds, hdi, ys, ey, hy⟩ := hd4.get1 hb
    have hm := List.mem_of_getElem? hdi
    conv => whnf
    refine ⟨sup_set, ?_⟩
    conv => whnf
    refine sturnI ((s46.trans sy).seq (SqL.of ey)) (DsAt.same hy (s46.trans sy)) (hf ds hm) f8 n3 (h60 ds hm) fun H2 s2 => ?_
    refine ⟨sy.trans s2, ?_⟩
    rw [List.take_add_one, List.getElem?_map, hdi, List.map_append]
    rfl
  obtain ⟨sy, rfl⟩ := p
  rw [List.take_of_length_le (by rw [List.length_map, List.length_map]; omega)]
  generalize hH7 : upd HY a3 _ = H7
  have s7' : Same HY H7 := by rw [← hH7]; exact .upd n3'
  have e7 : H7 a3 = some (.lst ((dss.map shT).map V.str)) := by rw [← hH7]; exact upd_same
  clear hH7
  obtain ⟨j1, j2⟩ := wt_sz (z := smS) (by decide) (dy_wt f8 n3 hf d9 h60)
  conv => whnf
  refine joinLI (SqL.of e7) j1 j2 ?_
  rw [PySem.StrLaws.glued_eq_join]
  conv => whnf
  refine ifB_f (by show (!decide (dyT dss = dyT dss)) = false; simp) ?_
  conv => whnf
  have s7 := sy.trans s7'
  have s47 := s46.trans s7
  refine eqRefT (d := dyD dss) (denL (SqL.of (s7 _ _ (s6 _ _ e5))) (den_dy (DyAt.same hb5 (s6.trans s7)))) (denL (SqL.of (s47 _ _ e4)) (den_dy (DyAt.same hd4 s47))) (by have := deps_dy dss; unfold dyD; simp only [dep]; omega) ?_
  conv => whnf
  refine ifB_f rfl ?_
  conv => whnf
  have tsh := dyT_ok f8 n3 hf d9 (by omega)
  have tx0 : TX (dyT dss) := ⟨by have := tsh.1; omega, tsh.2⟩
  refine bentI (hS4.same s47) tsh fun x H8 s8 hx => ?_
  have s48 := s47.trans s8
  conv => whnf
  refine ldyrI hx (hh4.same s48) fun rd H9 s9 hD => ?_
  conv => whnf
  have s49 := s48.trans s9
  refine readI hx (hh4.same s49) fun rf H10 s10 hF => ?_
  conv => whnf
  refine rightI hF (hD.same s10) (rdDy_len hx) fun H11 s11 => ?_
  conv => whnf
  refine ifB_f rfl ?_
  conv => whnf
  refine cutI (fun σ H' => Same H9 H' ∧ σ = [some (.ref a), some (.ref h), some (.ref l), some (.ref l5), some (.str (dyT dss)), some (.str x), some (.ref rd), some (.ref rf), none]) ?_ ?_
  · have hF11 := hF.same s11
    have hln := rdDy_len (fl := fl) (n := n) hx
    conv => whnf
    cases hr : rdDy fl n x with
    | inr u =>
      rw [hr] at hF11
      obtain ⟨er, ne⟩ := hF11
      obtain ⟨nm, iv, ev, hne⟩ := bad_name ne
      rw [ev] at er
      refine seqAtT (SqT.of er) (v := .str nm) rfl ?_
      conv => whnf
      refine ifB_f (decide_eq_false hne) ?_
      exact ⟨s10.trans s11, rfl⟩
    | inl ess =>
      have hpos := rdDy_pos hr
      rw [hr] at hF11
      obtain ⟨lf, af, ef, elf, hdf, nlf, naf⟩ := hF11
      obtain ⟨z1, z2⟩ := hln ess hr
      have hfl := hdf.len
      obtain ⟨b, hb⟩ : ∃ b, af[0]? = some b := ⟨_, List.getElem?_eq_getElem (show 0 < af.length by omega)⟩
      obtain ⟨ds, hdi, ys, ey, hy⟩ := hdf.get1 hb
      have hyl := hy.len
      have := z2 ds (List.mem_of_getElem? hdi)
      have hbr : (af.map V.ref)[0]? = some (.ref b) := by rw [List.getElem?_map, hb]; rfl
      have nb := naf b (List.mem_of_getElem? hb)
      refine seqAtT (SqT.of ef) (v := .str tGood) rfl ?_
      conv => whnf
      refine ifB_t rfl ?_
      conv => whnf
      refine seqAtT (SqT.of ef) (v := .ref lf) rfl ?_
      conv => whnf
      refine seqAtL (SqL.of elf) (atI_nat (j := 0) hbr) ?_
      conv => whnf
      refine ⟨.inl ⟨rfl, _, SqL.of ey⟩, ?_⟩
      conv => whnf
      refine tupI (szN (by show 1 ≤ 1000000; decide)) fun tp H12 s12 n12 e12 => ?_
      conv => whnf
      refine appLI (s12 _ _ ey) (by rw [sizeLine_eq]; omega) ?_
      generalize hH13 : upd H12 b (.lst (ys ++ [.ref tp])) = H13
      have s13 : Same H9 H13 := by rw [← hH13]; exact Same.updF' ((s10.trans s11).trans s12) nb
      have ef13 : SqT K H13 rf [.str tGood, .ref lf] := SqT.of (by rw [← hH13, upd_ne (fun z => by rw [z, ey] at ef; cases ef)]; exact s12 _ _ ef)
      have elf13 : ∃ zs, H13 lf = some (.lst zs) ∧ zs.length ≤ 1000001 := by
        by_cases z : lf = b
        · exact ⟨ys ++ [.ref tp], by rw [← hH13, z]; exact upd_same, by simp; omega⟩
        · exact ⟨af.map V.ref, by rw [← hH13, upd_ne z]; exact s12 _ _ elf, by rw [List.length_map]; omega⟩
      clear hH13
      obtain ⟨zs, ez, hz⟩ := elf13
      conv => whnf
      refine seqAtT ef13 (v := .ref lf) rfl ?_
      conv => whnf
      refine ⟨.inl ⟨rfl, _, SqL.of ez⟩, ?_⟩
      conv => whnf
      refine lstI (szN (by show 0 ≤ 1000000; decide)) fun tq H14 s14 n14 e14 => ?_
      conv => whnf
      refine appLI (s14 _ _ ez) (by rw [sizeLine_eq]; omega) ?_
      exact ⟨Same.updF' (s13.trans s14) nlf, rfl⟩
  rintro σ' H12 ⟨s12, rfl⟩
  conv => whnf
  have s412 := s49.trans s12
  refine ldyrI tx0 (hh4.same s412) fun rp H13 s13 hP => ?_
  conv => whnf
  obtain ⟨es, hes⟩ := rdDy_text f8 n3 (by intro z; rw [z] at d1; exact absurd d1 (by decide)) hf
  have hP0 := hP
  rw [hes] at hP0
  obtain ⟨lp, xp, ep, _⟩ := hP0
  refine seqAtT (SqT.of ep) (v := .str tGood) rfl ?_
  conv => whnf
  refine ifB_f rfl ?_
  conv => whnf
  have s413 := s412.trans s13
  refine readI tx0 (hh4.same s413) fun rq H14 s14 hR => ?_
  conv => whnf
  refine rightI hR (hP.same s14) (rdDy_len tx0) fun H15 s15 => ?_
  conv => whnf
  refine ifB_f rfl ?_
  conv => whnf
  have s415 := (s413.trans s14).trans s15
  refine readI hx (hh4.same s415) fun rz H16 s16 hZ => ?_
  conv => whnf
  exact rightI hZ (hD.same (s12.trans (s13.trans (s14.trans (s15.trans s16))))) (rdDy_len hx) fun H17 s17 => q _
end
theorem law_true {K : PySem.W.Frag} {H : Hp} {a : Addr} {ns : List Int} {E : XK} (hS : SqL K H a (ns.map V.int)) (hl : ns.length ≤ 63) (hb : ∀ i ∈ ns, Builtin.Int.intBits i ≤ 2 ^ 20) : spLaw K [.ref a] H (fun v _ => v = .bl true) E := ⟨a, ns, rfl, ⟨⟨hS, hl⟩, hb⟩, fun _ => rfl⟩
theorem all_mk {l : PySem.W.OpenLaw} {w : World} {K : PySem.W.Frag} {h : Heap} {mg : Str → Option Value} {fa : Addr} (X : K.In h) (G : h.Ns mainGlobals mg) (hfa : mg "law" = some (.ref fa))
    {kNoFloor : Addr} {kNoLift : Addr} {kTwice : Addr} {kNoRide : Addr} {kNoDeed : Addr} {kNoDeal : Addr} {kNoHouse : Addr} {kNoRule : Addr} {kNoIll : Addr} {kNoLine : Addr} {kEmpty : Addr} {kTooMany : Addr} {kCourtError : Addr} {f1 : Addr} {od1 an1 : Option Addr} {sl1 : Array (Option Value)} {oc1 kV1 dc1 pm1 cd1 ct1 : Value} {f2 : Addr} {od2 an2 : Option Addr} {sl2 : Array (Option Value)} {oc2 kV2 dc2 pm2 cd2 ct2 : Value} {f3 : Addr} {od3 an3 : Option Addr} {sl3 : Array (Option Value)} {oc3 kV3 dc3 pm3 cd3 ct3 : Value} {f4 : Addr} {od4 an4 : Option Addr} {sl4 : Array (Option Value)} {oc4 kV4 dc4 pm4 cd4 ct4 : Value} {f5 : Addr} {od5 an5 : Option Addr} {sl5 : Array (Option Value)} {oc5 kV5 dc5 pm5 cd5 ct5 : Value} {f6 : Addr} {od6 an6 : Option Addr} {sl6 : Array (Option Value)} {oc6 kV6 dc6 pm6 cd6 ct6 : Value} {f7 : Addr} {od7 an7 : Option Addr} {sl7 : Array (Option Value)} {oc7 kV7 dc7 pm7 cd7 ct7 : Value} {f8 : Addr} {od8 an8 : Option Addr} {sl8 : Array (Option Value)} {oc8 kV8 dc8 pm8 cd8 ct8 : Value} {f9 : Addr} {od9 an9 : Option Addr} {sl9 : Array (Option Value)} {oc9 kV9 dc9 pm9 cd9 ct9 : Value} {f10 : Addr} {od10 an10 : Option Addr} {sl10 : Array (Option Value)} {oc10 kV10 dc10 pm10 cd10 ct10 : Value} {f11 : Addr} {od11 an11 : Option Addr} {sl11 : Array (Option Value)} {oc11 kV11 dc11 pm11 cd11 ct11 : Value} {T11 : Addr} {oT11 : Option Addr} {nT11 : Nat} {sT11 : Array (Option Value)} {tT11 : Tok} {f12 : Addr} {od12 an12 : Option Addr} {sl12 : Array (Option Value)} {oc12 kV12 dc12 pm12 cd12 ct12 : Value} {f13 : Addr} {od13 an13 : Option Addr} {sl13 : Array (Option Value)} {oc13 kV13 dc13 pm13 cd13 ct13 : Value} {f14 : Addr} {od14 an14 : Option Addr} {sl14 : Array (Option Value)} {oc14 kV14 dc14 pm14 cd14 ct14 : Value} {f15 : Addr} {od15 an15 : Option Addr} {sl15 : Array (Option Value)} {oc15 kV15 dc15 pm15 cd15 ct15 : Value} {f16 : Addr} {od16 an16 : Option Addr} {sl16 : Array (Option Value)} {oc16 kV16 dc16 pm16 cd16 ct16 : Value} {f17 : Addr} {od17 an17 : Option Addr} {sl17 : Array (Option Value)} {oc17 kV17 dc17 pm17 cd17 ct17 : Value} {f18 : Addr} {od18 an18 : Option Addr} {sl18 : Array (Option Value)} {oc18 kV18 dc18 pm18 cd18 ct18 : Value} {f19 : Addr} {od19 an19 : Option Addr} {sl19 : Array (Option Value)} {oc19 kV19 dc19 pm19 cd19 ct19 : Value} {f20 : Addr} {od20 an20 : Option Addr} {sl20 : Array (Option Value)} {oc20 kV20 dc20 pm20 cd20 ct20 : Value} {f21 : Addr} {od21 an21 : Option Addr} {sl21 : Array (Option Value)} {oc21 kV21 dc21 pm21 cd21 ct21 : Value} {f22 : Addr} {od22 an22 : Option Addr} {sl22 : Array (Option Value)} {oc22 kV22 dc22 pm22 cd22 ct22 : Value} {f23 : Addr} {od23 an23 : Option Addr} {sl23 : Array (Option Value)} {oc23 kV23 dc23 pm23 cd23 ct23 : Value} {f24 : Addr} {od24 an24 : Option Addr} {sl24 : Array (Option Value)} {oc24 kV24 dc24 pm24 cd24 ct24 : Value} {f25 : Addr} {od25 an25 : Option Addr} {sl25 : Array (Option Value)} {oc25 kV25 dc25 pm25 cd25 ct25 : Value} {f26 : Addr} {od26 an26 : Option Addr} {sl26 : Array (Option Value)} {oc26 kV26 dc26 pm26 cd26 ct26 : Value} {f27 : Addr} {od27 an27 : Option Addr} {sl27 : Array (Option Value)} {oc27 kV27 dc27 pm27 cd27 ct27 : Value} {f28 : Addr} {od28 an28 : Option Addr} {sl28 : Array (Option Value)} {oc28 kV28 dc28 pm28 cd28 ct28 : Value} {f29 : Addr} {od29 an29 : Option Addr} {sl29 : Array (Option Value)} {oc29 kV29 dc29 pm29 cd29 ct29 : Value} {f30 : Addr} {od30 an30 : Option Addr} {sl30 : Array (Option Value)} {oc30 kV30 dc30 pm30 cd30 ct30 : Value} {f31 : Addr} {od31 an31 : Option Addr} {sl31 : Array (Option Value)} {oc31 kV31 dc31 pm31 cd31 ct31 : Value} {f32 : Addr} {od32 an32 : Option Addr} {sl32 : Array (Option Value)} {oc32 kV32 dc32 pm32 cd32 ct32 : Value} {f33 : Addr} {od33 an33 : Option Addr} {sl33 : Array (Option Value)} {oc33 kV33 dc33 pm33 cd33 ct33 : Value} {f34 : Addr} {od34 an34 : Option Addr} {sl34 : Array (Option Value)} {oc34 kV34 dc34 pm34 cd34 ct34 : Value} {f35 : Addr} {od35 an35 : Option Addr} {sl35 : Array (Option Value)} {oc35 kV35 dc35 pm35 cd35 ct35 : Value} {f36 : Addr} {od36 an36 : Option Addr} {sl36 : Array (Option Value)} {oc36 kV36 dc36 pm36 cd36 ct36 : Value} {f37 : Addr} {od37 an37 : Option Addr} {sl37 : Array (Option Value)} {oc37 kV37 dc37 pm37 cd37 ct37 : Value} {f38 : Addr} {od38 an38 : Option Addr} {sl38 : Array (Option Value)} {oc38 kV38 dc38 pm38 cd38 ct38 : Value} {f39 : Addr} {od39 an39 : Option Addr} {sl39 : Array (Option Value)} {oc39 kV39 dc39 pm39 cd39 ct39 : Value} {t_MOST_FIGURES : Tok} {t_FIGURES : Tok} {kDEEDS_OF_A_LIFT : Addr} {kDEEDS_OF_ALL : Addr} {odDEEDS_OF_A_LIFT : Option Addr} {nDEEDS_OF_A_LIFT : Nat} {slDEEDS_OF_A_LIFT : Array (Option Value)} {tDEEDS_OF_A_LIFT0 tDEEDS_OF_A_LIFT1 tDEEDS_OF_A_LIFT2 tDEEDS_OF_A_LIFT3 tDEEDS_OF_A_LIFT4 : Tok} {odDEEDS_OF_ALL : Option Addr} {nDEEDS_OF_ALL : Nat} {slDEEDS_OF_ALL : Array (Option Value)} {tDEEDS_OF_ALL0 tDEEDS_OF_ALL1 : Tok}
    (z_NoFloor : PySem.W.nsIn K mainGlobals "NoFloor" = some (some (.ref kNoFloor)))
    (z_NoLift : PySem.W.nsIn K mainGlobals "NoLift" = some (some (.ref kNoLift)))
    (z_Twice : PySem.W.nsIn K mainGlobals "Twice" = some (some (.ref kTwice)))
    (z_NoRide : PySem.W.nsIn K mainGlobals "NoRide" = some (some (.ref kNoRide)))
    (z_NoDeed : PySem.W.nsIn K mainGlobals "NoDeed" = some (some (.ref kNoDeed)))
    (z_NoDeal : PySem.W.nsIn K mainGlobals "NoDeal" = some (some (.ref kNoDeal)))
    (z_NoHouse : PySem.W.nsIn K mainGlobals "NoHouse" = some (some (.ref kNoHouse)))
    (z_NoRule : PySem.W.nsIn K mainGlobals "NoRule" = some (some (.ref kNoRule)))
    (z_NoIll : PySem.W.nsIn K mainGlobals "NoIll" = some (some (.ref kNoIll)))
    (z_NoLine : PySem.W.nsIn K mainGlobals "NoLine" = some (some (.ref kNoLine)))
    (z_Empty : PySem.W.nsIn K mainGlobals "Empty" = some (some (.ref kEmpty)))
    (z_TooMany : PySem.W.nsIn K mainGlobals "TooMany" = some (some (.ref kTooMany)))
    (z_CourtError : PySem.W.nsIn K mainGlobals "CourtError" = some (some (.ref kCourtError)))
    (a1 : PySem.W.findIn K (.ref kNoFloor) "__init__" = some (some (.ref f1))) (l1 : K.lookup f1 = some ⟨oc1, od1, .func (PySem.W.fnOf "__init__" "NoFloor.__init__" (defArgs sNofloorInit) (defBody sNofloorInit) (defScope sNofloorInit) .none kV1 dc1 pm1 an1 cd1 ct1), sl1⟩) (c1 : PySem.W.codeIn K cd1 "NoFloor.__init__" = true) (k1 : PySem.W.keepIn K (.ref f1) = true)
    (fn1 : PySem.W.isFn K (.ref f1) = true)
    (a2 : PySem.W.findIn K (.ref kNoLift) "__init__" = some (some (.ref f2))) (l2 : K.lookup f2 = some ⟨oc2, od2, .func (PySem.W.fnOf "__init__" "NoLift.__init__" (defArgs sNoliftInit) (defBody sNoliftInit) (defScope sNoliftInit) .none kV2 dc2 pm2 an2 cd2 ct2), sl2⟩) (c2 : PySem.W.codeIn K cd2 "NoLift.__init__" = true) (k2 : PySem.W.keepIn K (.ref f2) = true)
    (fn2 : PySem.W.isFn K (.ref f2) = true)
    (a3 : PySem.W.nsIn K mainGlobals "need_floor" = some (some (.ref f3))) (l3 : K.lookup f3 = some ⟨oc3, od3, .func (PySem.W.fnOf "need_floor" "need_floor" (defArgs sNeedFloor) (defBody sNeedFloor) (defScope sNeedFloor) .none kV3 dc3 pm3 an3 cd3 ct3), sl3⟩) (c3 : PySem.W.codeIn K cd3 "need_floor" = true) (k3 : PySem.W.keepIn K (.ref f3) = true)
    (a4 : PySem.W.nsIn K mainGlobals "need_lift" = some (some (.ref f4))) (l4 : K.lookup f4 = some ⟨oc4, od4, .func (PySem.W.fnOf "need_lift" "need_lift" (defArgs sNeedLift) (defBody sNeedLift) (defScope sNeedLift) .none kV4 dc4 pm4 an4 cd4 ct4), sl4⟩) (c4 : PySem.W.codeIn K cd4 "need_lift" = true) (k4 : PySem.W.keepIn K (.ref f4) = true)
    (a5 : PySem.W.nsIn K mainGlobals "need_ride" = some (some (.ref f5))) (l5 : K.lookup f5 = some ⟨oc5, od5, .func (PySem.W.fnOf "need_ride" "need_ride" (defArgs sNeedRide) (defBody sNeedRide) (defScope sNeedRide) .none kV5 dc5 pm5 an5 cd5 ct5), sl5⟩) (c5 : PySem.W.codeIn K cd5 "need_ride" = true) (k5 : PySem.W.keepIn K (.ref f5) = true)
    (a6 : PySem.W.nsIn K mainGlobals "need_deed" = some (some (.ref f6))) (l6 : K.lookup f6 = some ⟨oc6, od6, .func (PySem.W.fnOf "need_deed" "need_deed" (defArgs sNeedDeed) (defBody sNeedDeed) (defScope sNeedDeed) .none kV6 dc6 pm6 an6 cd6 ct6), sl6⟩) (c6 : PySem.W.codeIn K cd6 "need_deed" = true) (k6 : PySem.W.keepIn K (.ref f6) = true)
    (a7 : PySem.W.nsIn K mainGlobals "writes_number" = some (some (.ref f7))) (l7 : K.lookup f7 = some ⟨oc7, od7, .func (PySem.W.fnOf "writes_number" "writes_number" (defArgs sWritesNumber) (defBody sWritesNumber) (defScope sWritesNumber) .none kV7 dc7 pm7 an7 cd7 ct7), sl7⟩) (c7 : PySem.W.codeIn K cd7 "writes_number" = true) (k7 : PySem.W.keepIn K (.ref f7) = true)
    (a8 : PySem.W.nsIn K mainGlobals "number_of" = some (some (.ref f8))) (l8 : K.lookup f8 = some ⟨oc8, od8, .func (PySem.W.fnOf "number_of" "number_of" (defArgs sNumberOf) (defBody sNumberOf) (defScope sNumberOf) .none kV8 dc8 pm8 an8 cd8 ct8), sl8⟩) (c8 : PySem.W.codeIn K cd8 "number_of" = true) (k8 : PySem.W.keepIn K (.ref f8) = true)
    (a9 : PySem.W.nsIn K mainGlobals "read_number" = some (some (.ref f9))) (l9 : K.lookup f9 = some ⟨oc9, od9, .func (PySem.W.fnOf "read_number" "read_number" (defArgs sReadNumber) (defBody sReadNumber) (defScope sReadNumber) .none kV9 dc9 pm9 an9 cd9 ct9), sl9⟩) (c9 : PySem.W.codeIn K cd9 "read_number" = true) (k9 : PySem.W.keepIn K (.ref f9) = true)
    (a10 : PySem.W.nsIn K mainGlobals "read_deed" = some (some (.ref f10))) (l10 : K.lookup f10 = some ⟨oc10, od10, .func (PySem.W.fnOf "read_deed" "read_deed" (defArgs sReadDeed) (defBody sReadDeed) (defScope sReadDeed) .none kV10 dc10 pm10 an10 cd10 ct10), sl10⟩) (c10 : PySem.W.codeIn K cd10 "read_deed" = true) (k10 : PySem.W.keepIn K (.ref f10) = true)
    (a11 : PySem.W.nsIn K mainGlobals "read_turn" = some (some (.ref f11))) (l11 : K.lookup f11 = some ⟨oc11, od11, .func (PySem.W.fnOf "read_turn" "read_turn" (defArgs sReadTurn) (defBody sReadTurn) (defScope sReadTurn) (.ref T11) kV11 dc11 pm11 an11 cd11 ct11), sl11⟩) (c11 : PySem.W.codeIn K cd11 "read_turn" = true) (k11 : PySem.W.keepIn K (.ref f11) = true)
    (lT11 : K.lookup T11 = some ⟨.type "tuple", oT11, .seq #[.int 0 tT11] nT11, sT11⟩)
    (a12 : PySem.W.nsIn K mainGlobals "shown_deed" = some (some (.ref f12))) (l12 : K.lookup f12 = some ⟨oc12, od12, .func (PySem.W.fnOf "shown_deed" "shown_deed" (defArgs sShownDeed) (defBody sShownDeed) (defScope sShownDeed) .none kV12 dc12 pm12 an12 cd12 ct12), sl12⟩) (c12 : PySem.W.codeIn K cd12 "shown_deed" = true) (k12 : PySem.W.keepIn K (.ref f12) = true)
    (a13 : PySem.W.nsIn K mainGlobals "shown_turn" = some (some (.ref f13))) (l13 : K.lookup f13 = some ⟨oc13, od13, .func (PySem.W.fnOf "shown_turn" "shown_turn" (defArgs sShownTurn) (defBody sShownTurn) (defScope sShownTurn) .none kV13 dc13 pm13 an13 cd13 ct13), sl13⟩) (c13 : PySem.W.codeIn K cd13 "shown_turn" = true) (k13 : PySem.W.keepIn K (.ref f13) = true)
    (a14 : PySem.W.nsIn K mainGlobals "comings" = some (some (.ref f14))) (l14 : K.lookup f14 = some ⟨oc14, od14, .func (PySem.W.fnOf "comings" "comings" (defArgs sComings) (defBody sComings) (defScope sComings) .none kV14 dc14 pm14 an14 cd14 ct14), sl14⟩) (c14 : PySem.W.codeIn K cd14 "comings" = true) (k14 : PySem.W.keepIn K (.ref f14) = true)
    (a15 : PySem.W.nsIn K mainGlobals "read_day" = some (some (.ref f15))) (l15 : K.lookup f15 = some ⟨oc15, od15, .func (PySem.W.fnOf "read_day" "read_day" (defArgs sReadDay) (defBody sReadDay) (defScope sReadDay) .none kV15 dc15 pm15 an15 cd15 ct15), sl15⟩) (c15 : PySem.W.codeIn K cd15 "read_day" = true) (k15 : PySem.W.keepIn K (.ref f15) = true)
    (a16 : PySem.W.nsIn K mainGlobals "shown_day" = some (some (.ref f16))) (l16 : K.lookup f16 = some ⟨oc16, od16, .func (PySem.W.fnOf "shown_day" "shown_day" (defArgs sShownDay) (defBody sShownDay) (defScope sShownDay) .none kV16 dc16 pm16 an16 cd16 ct16), sl16⟩) (c16 : PySem.W.codeIn K cd16 "shown_day" = true) (k16 : PySem.W.keepIn K (.ref f16) = true)
    (a17 : PySem.W.nsIn K mainGlobals "_law_cell" = some (some (.ref f17))) (l17 : K.lookup f17 = some ⟨oc17, od17, .func (PySem.W.fnOf "_law_cell" "_law_cell" (defArgs sLCell) (defBody sLCell) (defScope sLCell) .none kV17 dc17 pm17 an17 cd17 ct17), sl17⟩) (c17 : PySem.W.codeIn K cd17 "_law_cell" = true) (k17 : PySem.W.keepIn K (.ref f17) = true)
    (a18 : PySem.W.nsIn K mainGlobals "_law_draw" = some (some (.ref f18))) (l18 : K.lookup f18 = some ⟨oc18, od18, .func (PySem.W.fnOf "_law_draw" "_law_draw" (defArgs sLDraw) (defBody sLDraw) (defScope sLDraw) .none kV18 dc18 pm18 an18 cd18 ct18), sl18⟩) (c18 : PySem.W.codeIn K cd18 "_law_draw" = true) (k18 : PySem.W.keepIn K (.ref f18) = true)
    (a19 : PySem.W.nsIn K mainGlobals "_law_great" = some (some (.ref f19))) (l19 : K.lookup f19 = some ⟨oc19, od19, .func (PySem.W.fnOf "_law_great" "_law_great" (defArgs sLGreat) (defBody sLGreat) (defScope sLGreat) .none kV19 dc19 pm19 an19 cd19 ct19), sl19⟩) (c19 : PySem.W.codeIn K cd19 "_law_great" = true) (k19 : PySem.W.keepIn K (.ref f19) = true)
    (a20 : PySem.W.nsIn K mainGlobals "_law_whole" = some (some (.ref f20))) (l20 : K.lookup f20 = some ⟨oc20, od20, .func (PySem.W.fnOf "_law_whole" "_law_whole" (defArgs sLWhole) (defBody sLWhole) (defScope sLWhole) .none kV20 dc20 pm20 an20 cd20 ct20), sl20⟩) (c20 : PySem.W.codeIn K cd20 "_law_whole" = true) (k20 : PySem.W.keepIn K (.ref f20) = true)
    (a21 : PySem.W.nsIn K mainGlobals "_law_tag" = some (some (.ref f21))) (l21 : K.lookup f21 = some ⟨oc21, od21, .func (PySem.W.fnOf "_law_tag" "_law_tag" (defArgs sLTag) (defBody sLTag) (defScope sLTag) .none kV21 dc21 pm21 an21 cd21 ct21), sl21⟩) (c21 : PySem.W.codeIn K cd21 "_law_tag" = true) (k21 : PySem.W.keepIn K (.ref f21) = true)
    (a22 : PySem.W.nsIn K mainGlobals "_law_lift" = some (some (.ref f22))) (l22 : K.lookup f22 = some ⟨oc22, od22, .func (PySem.W.fnOf "_law_lift" "_law_lift" (defArgs sLLift) (defBody sLLift) (defScope sLLift) .none kV22 dc22 pm22 an22 cd22 ct22), sl22⟩) (c22 : PySem.W.codeIn K cd22 "_law_lift" = true) (k22 : PySem.W.keepIn K (.ref f22) = true)
    (a23 : PySem.W.nsIn K mainGlobals "_law_house" = some (some (.ref f23))) (l23 : K.lookup f23 = some ⟨oc23, od23, .func (PySem.W.fnOf "_law_house" "_law_house" (defArgs sLHouse) (defBody sLHouse) (defScope sLHouse) .none kV23 dc23 pm23 an23 cd23 ct23), sl23⟩) (c23 : PySem.W.codeIn K cd23 "_law_house" = true) (k23 : PySem.W.keepIn K (.ref f23) = true)
    (a24 : PySem.W.nsIn K mainGlobals "_law_rider" = some (some (.ref f24))) (l24 : K.lookup f24 = some ⟨oc24, od24, .func (PySem.W.fnOf "_law_rider" "_law_rider" (defArgs sLRider) (defBody sLRider) (defScope sLRider) .none kV24 dc24 pm24 an24 cd24 ct24), sl24⟩) (c24 : PySem.W.codeIn K cd24 "_law_rider" = true) (k24 : PySem.W.keepIn K (.ref f24) = true)
    (a25 : PySem.W.nsIn K mainGlobals "_law_deed" = some (some (.ref f25))) (l25 : K.lookup f25 = some ⟨oc25, od25, .func (PySem.W.fnOf "_law_deed" "_law_deed" (defArgs sLDeed) (defBody sLDeed) (defScope sLDeed) .none kV25 dc25 pm25 an25 cd25 ct25), sl25⟩) (c25 : PySem.W.codeIn K cd25 "_law_deed" = true) (k25 : PySem.W.keepIn K (.ref f25) = true)
    (a26 : PySem.W.nsIn K mainGlobals "_law_shown_deed" = some (some (.ref f26))) (l26 : K.lookup f26 = some ⟨oc26, od26, .func (PySem.W.fnOf "_law_shown_deed" "_law_shown_deed" (defArgs sLShownDeed) (defBody sLShownDeed) (defScope sLShownDeed) .none kV26 dc26 pm26 an26 cd26 ct26), sl26⟩) (c26 : PySem.W.codeIn K cd26 "_law_shown_deed" = true) (k26 : PySem.W.keepIn K (.ref f26) = true)
    (a27 : PySem.W.nsIn K mainGlobals "_law_shown" = some (some (.ref f27))) (l27 : K.lookup f27 = some ⟨oc27, od27, .func (PySem.W.fnOf "_law_shown" "_law_shown" (defArgs sLShown) (defBody sLShown) (defScope sLShown) .none kV27 dc27 pm27 an27 cd27 ct27), sl27⟩) (c27 : PySem.W.codeIn K cd27 "_law_shown" = true) (k27 : PySem.W.keepIn K (.ref f27) = true)
    (a28 : PySem.W.nsIn K mainGlobals "_law_number" = some (some (.ref f28))) (l28 : K.lookup f28 = some ⟨oc28, od28, .func (PySem.W.fnOf "_law_number" "_law_number" (defArgs sLNumber) (defBody sLNumber) (defScope sLNumber) .none kV28 dc28 pm28 an28 cd28 ct28), sl28⟩) (c28 : PySem.W.codeIn K cd28 "_law_number" = true) (k28 : PySem.W.keepIn K (.ref f28) = true)
    (a29 : PySem.W.nsIn K mainGlobals "_law_come_read" = some (some (.ref f29))) (l29 : K.lookup f29 = some ⟨oc29, od29, .func (PySem.W.fnOf "_law_come_read" "_law_come_read" (defArgs sLComeRead) (defBody sLComeRead) (defScope sLComeRead) .none kV29 dc29 pm29 an29 cd29 ct29), sl29⟩) (c29 : PySem.W.codeIn K cd29 "_law_come_read" = true) (k29 : PySem.W.keepIn K (.ref f29) = true)
    (a30 : PySem.W.nsIn K mainGlobals "_law_part_read" = some (some (.ref f30))) (l30 : K.lookup f30 = some ⟨oc30, od30, .func (PySem.W.fnOf "_law_part_read" "_law_part_read" (defArgs sLPartRead) (defBody sLPartRead) (defScope sLPartRead) .none kV30 dc30 pm30 an30 cd30 ct30), sl30⟩) (c30 : PySem.W.codeIn K cd30 "_law_part_read" = true) (k30 : PySem.W.keepIn K (.ref f30) = true)
    (a31 : PySem.W.nsIn K mainGlobals "_law_turn_read" = some (some (.ref f31))) (l31 : K.lookup f31 = some ⟨oc31, od31, .func (PySem.W.fnOf "_law_turn_read" "_law_turn_read" (defArgs sLTurnRead) (defBody sLTurnRead) (defScope sLTurnRead) .none kV31 dc31 pm31 an31 cd31 ct31), sl31⟩) (c31 : PySem.W.codeIn K cd31 "_law_turn_read" = true) (k31 : PySem.W.keepIn K (.ref f31) = true)
    (a32 : PySem.W.nsIn K mainGlobals "_law_day" = some (some (.ref f32))) (l32 : K.lookup f32 = some ⟨oc32, od32, .func (PySem.W.fnOf "_law_day" "_law_day" (defArgs sLDay) (defBody sLDay) (defScope sLDay) .none kV32 dc32 pm32 an32 cd32 ct32), sl32⟩) (c32 : PySem.W.codeIn K cd32 "_law_day" = true) (k32 : PySem.W.keepIn K (.ref f32) = true)
    (a33 : PySem.W.nsIn K mainGlobals "_law_day_read" = some (some (.ref f33))) (l33 : K.lookup f33 = some ⟨oc33, od33, .func (PySem.W.fnOf "_law_day_read" "_law_day_read" (defArgs sLDayRead) (defBody sLDayRead) (defScope sLDayRead) .none kV33 dc33 pm33 an33 cd33 ct33), sl33⟩) (c33 : PySem.W.codeIn K cd33 "_law_day_read" = true) (k33 : PySem.W.keepIn K (.ref f33) = true)
    (a34 : PySem.W.nsIn K mainGlobals "_law_bent" = some (some (.ref f34))) (l34 : K.lookup f34 = some ⟨oc34, od34, .func (PySem.W.fnOf "_law_bent" "_law_bent" (defArgs sLBent) (defBody sLBent) (defScope sLBent) .none kV34 dc34 pm34 an34 cd34 ct34), sl34⟩) (c34 : PySem.W.codeIn K cd34 "_law_bent" = true) (k34 : PySem.W.keepIn K (.ref f34) = true)
    (a35 : PySem.W.nsIn K mainGlobals "_law_same" = some (some (.ref f35))) (l35 : K.lookup f35 = some ⟨oc35, od35, .func (PySem.W.fnOf "_law_same" "_law_same" (defArgs sLSame) (defBody sLSame) (defScope sLSame) .none kV35 dc35 pm35 an35 cd35 ct35), sl35⟩) (c35 : PySem.W.codeIn K cd35 "_law_same" = true) (k35 : PySem.W.keepIn K (.ref f35) = true)
    (a36 : PySem.W.nsIn K mainGlobals "_law_name" = some (some (.ref f36))) (l36 : K.lookup f36 = some ⟨oc36, od36, .func (PySem.W.fnOf "_law_name" "_law_name" (defArgs sLName) (defBody sLName) (defScope sLName) .none kV36 dc36 pm36 an36 cd36 ct36), sl36⟩) (c36 : PySem.W.codeIn K cd36 "_law_name" = true) (k36 : PySem.W.keepIn K (.ref f36) = true)
    (a37 : PySem.W.nsIn K mainGlobals "_law_read" = some (some (.ref f37))) (l37 : K.lookup f37 = some ⟨oc37, od37, .func (PySem.W.fnOf "_law_read" "_law_read" (defArgs sLRead) (defBody sLRead) (defScope sLRead) .none kV37 dc37 pm37 an37 cd37 ct37), sl37⟩) (c37 : PySem.W.codeIn K cd37 "_law_read" = true) (k37 : PySem.W.keepIn K (.ref f37) = true)
    (a38 : PySem.W.nsIn K mainGlobals "_law_right" = some (some (.ref f38))) (l38 : K.lookup f38 = some ⟨oc38, od38, .func (PySem.W.fnOf "_law_right" "_law_right" (defArgs sLRight) (defBody sLRight) (defScope sLRight) .none kV38 dc38 pm38 an38 cd38 ct38), sl38⟩) (c38 : PySem.W.codeIn K cd38 "_law_right" = true) (k38 : PySem.W.keepIn K (.ref f38) = true)
    (a39 : PySem.W.nsIn K mainGlobals "law" = some (some (.ref f39))) (l39 : K.lookup f39 = some ⟨oc39, od39, .func (PySem.W.fnOf "law" "law" (defArgs sLaw) (defBody sLaw) (defScope sLaw) .none kV39 dc39 pm39 an39 cd39 ct39), sl39⟩) (c39 : PySem.W.codeIn K cd39 "law" = true) (k39 : PySem.W.keepIn K (.ref f39) = true)
    (t_NoFloor_NoFloor : PySem.W.kitOne K (.ref kNoFloor) (.ref kNoFloor) = some true)
    (t_NoFloor_NoLift : PySem.W.kitOne K (.ref kNoFloor) (.ref kNoLift) = some false)
    (t_NoFloor_Twice : PySem.W.kitOne K (.ref kNoFloor) (.ref kTwice) = some false)
    (t_NoFloor_NoRide : PySem.W.kitOne K (.ref kNoFloor) (.ref kNoRide) = some false)
    (t_NoFloor_NoDeed : PySem.W.kitOne K (.ref kNoFloor) (.ref kNoDeed) = some false)
    (t_NoFloor_NoDeal : PySem.W.kitOne K (.ref kNoFloor) (.ref kNoDeal) = some false)
    (t_NoFloor_NoHouse : PySem.W.kitOne K (.ref kNoFloor) (.ref kNoHouse) = some false)
    (t_NoFloor_NoRule : PySem.W.kitOne K (.ref kNoFloor) (.ref kNoRule) = some false)
    (t_NoFloor_NoIll : PySem.W.kitOne K (.ref kNoFloor) (.ref kNoIll) = some false)
    (t_NoFloor_NoLine : PySem.W.kitOne K (.ref kNoFloor) (.ref kNoLine) = some false)
    (t_NoFloor_Empty : PySem.W.kitOne K (.ref kNoFloor) (.ref kEmpty) = some false)
    (t_NoFloor_TooMany : PySem.W.kitOne K (.ref kNoFloor) (.ref kTooMany) = some false)
    (t_NoFloor_ValueError : PySem.W.kitOne K (.ref kNoFloor) (.type "ValueError") = some true)
    (ga_NoFloor : PySem.W.findIn K (.ref kNoFloor) "__getattribute__" = some (some (.builtin "BaseException.__getattribute__")))
    (gr_NoFloor : PySem.W.findIn K (.ref kNoFloor) "__getattr__" = some none)
    (cl_NoFloor : PySem.W.findIn K (.ref kNoFloor) "__class__" = some (some (.builtin "object.__class__")))
    (mB_NoFloor : PySem.W.mroIn K kNoFloor (.type "BaseException") = some true)
    (mO_NoFloor : PySem.W.mroIn K kNoFloor (.type "object") = some true)
    (t_NoLift_NoFloor : PySem.W.kitOne K (.ref kNoLift) (.ref kNoFloor) = some false)
    (t_NoLift_NoLift : PySem.W.kitOne K (.ref kNoLift) (.ref kNoLift) = some true)
    (t_NoLift_Twice : PySem.W.kitOne K (.ref kNoLift) (.ref kTwice) = some false)
    (t_NoLift_NoRide : PySem.W.kitOne K (.ref kNoLift) (.ref kNoRide) = some false)
    (t_NoLift_NoDeed : PySem.W.kitOne K (.ref kNoLift) (.ref kNoDeed) = some false)
    (t_NoLift_NoDeal : PySem.W.kitOne K (.ref kNoLift) (.ref kNoDeal) = some false)
    (t_NoLift_NoHouse : PySem.W.kitOne K (.ref kNoLift) (.ref kNoHouse) = some false)
    (t_NoLift_NoRule : PySem.W.kitOne K (.ref kNoLift) (.ref kNoRule) = some false)
    (t_NoLift_NoIll : PySem.W.kitOne K (.ref kNoLift) (.ref kNoIll) = some false)
    (t_NoLift_NoLine : PySem.W.kitOne K (.ref kNoLift) (.ref kNoLine) = some false)
    (t_NoLift_Empty : PySem.W.kitOne K (.ref kNoLift) (.ref kEmpty) = some false)
    (t_NoLift_TooMany : PySem.W.kitOne K (.ref kNoLift) (.ref kTooMany) = some false)
    (t_NoLift_ValueError : PySem.W.kitOne K (.ref kNoLift) (.type "ValueError") = some true)
    (ga_NoLift : PySem.W.findIn K (.ref kNoLift) "__getattribute__" = some (some (.builtin "BaseException.__getattribute__")))
    (gr_NoLift : PySem.W.findIn K (.ref kNoLift) "__getattr__" = some none)
    (cl_NoLift : PySem.W.findIn K (.ref kNoLift) "__class__" = some (some (.builtin "object.__class__")))
    (mB_NoLift : PySem.W.mroIn K kNoLift (.type "BaseException") = some true)
    (mO_NoLift : PySem.W.mroIn K kNoLift (.type "object") = some true)
    (t_NoRide_NoFloor : PySem.W.kitOne K (.ref kNoRide) (.ref kNoFloor) = some false)
    (t_NoRide_NoLift : PySem.W.kitOne K (.ref kNoRide) (.ref kNoLift) = some false)
    (t_NoRide_Twice : PySem.W.kitOne K (.ref kNoRide) (.ref kTwice) = some false)
    (t_NoRide_NoRide : PySem.W.kitOne K (.ref kNoRide) (.ref kNoRide) = some true)
    (t_NoRide_NoDeed : PySem.W.kitOne K (.ref kNoRide) (.ref kNoDeed) = some false)
    (t_NoRide_NoDeal : PySem.W.kitOne K (.ref kNoRide) (.ref kNoDeal) = some false)
    (t_NoRide_NoHouse : PySem.W.kitOne K (.ref kNoRide) (.ref kNoHouse) = some false)
    (t_NoRide_NoRule : PySem.W.kitOne K (.ref kNoRide) (.ref kNoRule) = some false)
    (t_NoRide_NoIll : PySem.W.kitOne K (.ref kNoRide) (.ref kNoIll) = some false)
    (t_NoRide_NoLine : PySem.W.kitOne K (.ref kNoRide) (.ref kNoLine) = some false)
    (t_NoRide_Empty : PySem.W.kitOne K (.ref kNoRide) (.ref kEmpty) = some false)
    (t_NoRide_TooMany : PySem.W.kitOne K (.ref kNoRide) (.ref kTooMany) = some false)
    (t_NoRide_ValueError : PySem.W.kitOne K (.ref kNoRide) (.type "ValueError") = some true)
    (ga_NoRide : PySem.W.findIn K (.ref kNoRide) "__getattribute__" = some (some (.builtin "BaseException.__getattribute__")))
    (gr_NoRide : PySem.W.findIn K (.ref kNoRide) "__getattr__" = some none)
    (cl_NoRide : PySem.W.findIn K (.ref kNoRide) "__class__" = some (some (.builtin "object.__class__")))
    (mB_NoRide : PySem.W.mroIn K kNoRide (.type "BaseException") = some true)
    (mO_NoRide : PySem.W.mroIn K kNoRide (.type "object") = some true)
    (t_NoDeed_NoFloor : PySem.W.kitOne K (.ref kNoDeed) (.ref kNoFloor) = some false)
    (t_NoDeed_NoLift : PySem.W.kitOne K (.ref kNoDeed) (.ref kNoLift) = some false)
    (t_NoDeed_Twice : PySem.W.kitOne K (.ref kNoDeed) (.ref kTwice) = some false)
    (t_NoDeed_NoRide : PySem.W.kitOne K (.ref kNoDeed) (.ref kNoRide) = some false)
    (t_NoDeed_NoDeed : PySem.W.kitOne K (.ref kNoDeed) (.ref kNoDeed) = some true)
    (t_NoDeed_NoDeal : PySem.W.kitOne K (.ref kNoDeed) (.ref kNoDeal) = some false)
    (t_NoDeed_NoHouse : PySem.W.kitOne K (.ref kNoDeed) (.ref kNoHouse) = some false)
    (t_NoDeed_NoRule : PySem.W.kitOne K (.ref kNoDeed) (.ref kNoRule) = some false)
    (t_NoDeed_NoIll : PySem.W.kitOne K (.ref kNoDeed) (.ref kNoIll) = some false)
    (t_NoDeed_NoLine : PySem.W.kitOne K (.ref kNoDeed) (.ref kNoLine) = some false)
    (t_NoDeed_Empty : PySem.W.kitOne K (.ref kNoDeed) (.ref kEmpty) = some false)
    (t_NoDeed_TooMany : PySem.W.kitOne K (.ref kNoDeed) (.ref kTooMany) = some false)
    (t_NoDeed_ValueError : PySem.W.kitOne K (.ref kNoDeed) (.type "ValueError") = some true)
    (ga_NoDeed : PySem.W.findIn K (.ref kNoDeed) "__getattribute__" = some (some (.builtin "BaseException.__getattribute__")))
    (gr_NoDeed : PySem.W.findIn K (.ref kNoDeed) "__getattr__" = some none)
    (cl_NoDeed : PySem.W.findIn K (.ref kNoDeed) "__class__" = some (some (.builtin "object.__class__")))
    (mB_NoDeed : PySem.W.mroIn K kNoDeed (.type "BaseException") = some true)
    (mO_NoDeed : PySem.W.mroIn K kNoDeed (.type "object") = some true)
    (br_CourtError : PySem.W.readsIn K kCourtError (.type "type") = true)
    (bf_CourtError : PySem.W.findCls K (.ref kCourtError) (.type "type") "__init__" = some (.val (.builtin "ValueError.__init__")))
    (bg_CourtError : PySem.W.specialIn K (.ref kCourtError) "__getattribute__" = some (some (.builtin "type.__getattribute__")))
    (j_NoFloor : L2.excJ K kNoFloor L2.VEs "ValueError.__new__" = true)
    (sa_NoFloor : PySem.W.findIn K (.ref kNoFloor) "__setattr__" = some (some (.builtin "object.__setattr__")))
    (A_NoFloor_floor : PySem.W.findIn K (.ref kNoFloor) "floor" = some none)
    (j_NoLift : L2.excJ K kNoLift L2.VEs "ValueError.__new__" = true)
    (sa_NoLift : PySem.W.findIn K (.ref kNoLift) "__setattr__" = some (some (.builtin "object.__setattr__")))
    (A_NoLift_lift : PySem.W.findIn K (.ref kNoLift) "lift" = some none)
    (in_NoFloor : PySem.W.findIn K (.ref kNoFloor) "__init__" = some (some (.ref f1)))
    (kp_NoFloor : PySem.W.keepIn K (.ref kNoFloor) = true)
    (z_len : PySem.W.nsIn K mainGlobals "len" = some none)
    (in_NoLift : PySem.W.findIn K (.ref kNoLift) "__init__" = some (some (.ref f2)))
    (kp_NoLift : PySem.W.keepIn K (.ref kNoLift) = true)
    (i_NoRide : PySem.W.excIn K kNoRide [.type "ValueError", .type "Exception", .type "BaseException", .type "object"] "ValueError.__new__" = true)
    (z_all : PySem.W.nsIn K mainGlobals "all" = some none)
    (z_MOST_FIGURES : PySem.W.nsIn K mainGlobals "MOST_FIGURES" = some (some (.int 9 t_MOST_FIGURES)))
    (z_FIGURES : PySem.W.nsIn K mainGlobals "FIGURES" = some (some (.str (Str.ofString "0123456789") t_FIGURES)))
    (z_int : PySem.W.nsIn K mainGlobals "int" = some none)
    (i_NoDeed : PySem.W.excIn K kNoDeed [.type "ValueError", .type "Exception", .type "BaseException", .type "object"] "ValueError.__new__" = true)
    (z_DEEDS_OF_A_LIFT : PySem.W.nsIn K mainGlobals "DEEDS_OF_A_LIFT" = some (some (.ref kDEEDS_OF_A_LIFT)))
    (z_DEEDS_OF_ALL : PySem.W.nsIn K mainGlobals "DEEDS_OF_ALL" = some (some (.ref kDEEDS_OF_ALL)))
    (l_DEEDS_OF_A_LIFT : K.lookup kDEEDS_OF_A_LIFT = some ⟨.type "tuple", odDEEDS_OF_A_LIFT, .seq #[.str (Str.ofString "block") tDEEDS_OF_A_LIFT0, .str (Str.ofString "stick") tDEEDS_OF_A_LIFT1, .str (Str.ofString "free") tDEEDS_OF_A_LIFT2, .str (Str.ofString "goods") tDEEDS_OF_A_LIFT3, .str (Str.ofString "back") tDEEDS_OF_A_LIFT4] nDEEDS_OF_A_LIFT, slDEEDS_OF_A_LIFT⟩)
    (l_DEEDS_OF_ALL : K.lookup kDEEDS_OF_ALL = some ⟨.type "tuple", odDEEDS_OF_ALL, .seq #[.str (Str.ofString "fire") tDEEDS_OF_ALL0, .str (Str.ofString "calm") tDEEDS_OF_ALL1] nDEEDS_OF_ALL, slDEEDS_OF_ALL⟩)
    (z_list : PySem.W.nsIn K mainGlobals "list" = some none)
    (z_str : PySem.W.nsIn K mainGlobals "str" = some none)
    (z_isinstance : PySem.W.nsIn K mainGlobals "isinstance" = some none)
    (z_bool : PySem.W.nsIn K mainGlobals "bool" = some none)
    (z_tuple : PySem.W.nsIn K mainGlobals "tuple" = some none)
    (z_range : PySem.W.nsIn K mainGlobals "range" = some none)
    (z_ValueError : PySem.W.nsIn K mainGlobals "ValueError" = some none)
    (hd_NoFloor : PySem.W.hasDictIn K kNoFloor = true)
    (hd_NoLift : PySem.W.hasDictIn K kNoLift = true)
    (i_CourtError : PySem.W.excIn K kCourtError [.type "ValueError", .type "Exception", .type "BaseException", .type "object"] "ValueError.__new__" = true)
    (mj_NoFloor_CourtError : PySem.W.mroIn K kNoFloor (.ref kCourtError) = some true)
    (mj_NoLift_CourtError : PySem.W.mroIn K kNoLift (.ref kCourtError) = some true)
    (mj_NoRide_CourtError : PySem.W.mroIn K kNoRide (.ref kCourtError) = some true)
    (mj_NoDeed_CourtError : PySem.W.mroIn K kNoDeed (.ref kCourtError) = some true) :
    ∃ fd : FuncData, (∀ (s : Shared) (v : Value), BindsTo s fd ⟨[v], []⟩ [("_law_script", v)]) ∧ ∀ base : Heap, K.In base → base.Ns mainGlobals mg → FnOk l.prog w K mg base CX0 9 fa fd ["_law_script"] (spLaw K) := by
  have e := hfa.symm.trans (PySem.W.mg_of X G a39)
  cases e
  have g_NoFloor := PySem.W.mg_of X G z_NoFloor
  have g_NoLift := PySem.W.mg_of X G z_NoLift
  have g_Twice := PySem.W.mg_of X G z_Twice
  have g_NoRide := PySem.W.mg_of X G z_NoRide
  have g_NoDeed := PySem.W.mg_of X G z_NoDeed
  have g_NoDeal := PySem.W.mg_of X G z_NoDeal
  have g_NoHouse := PySem.W.mg_of X G z_NoHouse
  have g_NoRule := PySem.W.mg_of X G z_NoRule
  have g_NoIll := PySem.W.mg_of X G z_NoIll
  have g_NoLine := PySem.W.mg_of X G z_NoLine
  have g_Empty := PySem.W.mg_of X G z_Empty
  have g_TooMany := PySem.W.mg_of X G z_TooMany
  have g_CourtError := PySem.W.mg_of X G z_CourtError
  have F1 := fun_mk (x := "__init__") (qual := "NoFloor.__init__") (st := sNofloorInit) l1 c1 k1
  have b1 := F1.binds (ps := ["self", "floor"]) fun _ _ _ _ _ _ us hl => match us, hl with | [_, _], _ => rfl
  have F2 := fun_mk (x := "__init__") (qual := "NoLift.__init__") (st := sNoliftInit) l2 c2 k2
  have b2 := F2.binds (ps := ["self", "lift"]) fun _ _ _ _ _ _ us hl => match us, hl with | [_, _], _ => rfl
  have F3 := fun_mk (x := "need_floor") (qual := "need_floor") (st := sNeedFloor) l3 c3 k3
  have b3 := F3.binds (ps := ["house", "floor"]) fun _ _ _ _ _ _ us hl => match us, hl with | [_, _], _ => rfl
  have F4 := fun_mk (x := "need_lift") (qual := "need_lift") (st := sNeedLift) l4 c4 k4
  have b4 := F4.binds (ps := ["house", "lift"]) fun _ _ _ _ _ _ us hl => match us, hl with | [_, _], _ => rfl
  have F5 := fun_mk (x := "need_ride") (qual := "need_ride") (st := sNeedRide) l5 c5 k5
  have b5 := F5.binds (ps := ["house", "start", "goal"]) fun _ _ _ _ _ _ us hl => match us, hl with | [_, _, _], _ => rfl
  have F6 := fun_mk (x := "need_deed") (qual := "need_deed") (st := sNeedDeed) l6 c6 k6
  have b6 := F6.binds (ps := ["house", "deed"]) fun _ _ _ _ _ _ us hl => match us, hl with | [_, _], _ => rfl
  have F7 := fun_mk (x := "writes_number") (qual := "writes_number") (st := sWritesNumber) l7 c7 k7
  have b7 := F7.binds (ps := ["text"]) fun _ _ _ _ _ _ us hl => match us, hl with | [_], _ => rfl
  have F8 := fun_mk (x := "number_of") (qual := "number_of") (st := sNumberOf) l8 c8 k8
  have b8 := F8.binds (ps := ["text"]) fun _ _ _ _ _ _ us hl => match us, hl with | [_], _ => rfl
  have F9 := fun_mk (x := "read_number") (qual := "read_number") (st := sReadNumber) l9 c9 k9
  have b9 := F9.binds (ps := ["word"]) fun _ _ _ _ _ _ us hl => match us, hl with | [_], _ => rfl
  have F10 := fun_mk (x := "read_deed") (qual := "read_deed") (st := sReadDeed) l10 c10 k10
  have b10 := F10.binds (ps := ["part", "tag"]) fun _ _ _ _ _ _ us hl => match us, hl with | [_, _], _ => rfl
  have F11 := L2.funD_mk (x := "read_turn") (qual := "read_turn") (st := sReadTurn) l11 c11
  have b11 : L2.Binds K (PySem.W.fnOf "read_turn" "read_turn" (defArgs sReadTurn) (defBody sReadTurn) (defScope sReadTurn) (.ref T11) kV11 dc11 pm11 an11 cd11 ct11) ["text", "house", "first"] [] := fun s us KI hl => match us, hl with | [_, _, _], _ => PySem.W.binds_K KI rfl lT11 rfl rfl rfl
  have bd11 : L2.Binds K (PySem.W.fnOf "read_turn" "read_turn" (defArgs sReadTurn) (defBody sReadTurn) (defScope sReadTurn) (.ref T11) kV11 dc11 pm11 an11 cd11 ct11) ["text", "house", "first"] [.int 0 tT11] := fun s us KI hl => match us, (show us.length = 2 by simpa using hl) with | [_, _], _ => PySem.W.binds_K KI rfl lT11 rfl rfl rfl
  have F12 := fun_mk (x := "shown_deed") (qual := "shown_deed") (st := sShownDeed) l12 c12 k12
  have b12 := F12.binds (ps := ["deed"]) fun _ _ _ _ _ _ us hl => match us, hl with | [_], _ => rfl
  have F13 := fun_mk (x := "shown_turn") (qual := "shown_turn") (st := sShownTurn) l13 c13 k13
  have b13 := F13.binds (ps := ["deeds"]) fun _ _ _ _ _ _ us hl => match us, hl with | [_], _ => rfl
  have F14 := fun_mk (x := "comings") (qual := "comings") (st := sComings) l14 c14 k14
  have b14 := F14.binds (ps := ["deeds"]) fun _ _ _ _ _ _ us hl => match us, hl with | [_], _ => rfl
  have F15 := fun_mk (x := "read_day") (qual := "read_day") (st := sReadDay) l15 c15 k15
  have b15 := F15.binds (ps := ["text", "house"]) fun _ _ _ _ _ _ us hl => match us, hl with | [_, _], _ => rfl
  have F16 := fun_mk (x := "shown_day") (qual := "shown_day") (st := sShownDay) l16 c16 k16
  have b16 := F16.binds (ps := ["day"]) fun _ _ _ _ _ _ us hl => match us, hl with | [_], _ => rfl
  have F17 := fun_mk (x := "_law_cell") (qual := "_law_cell") (st := sLCell) l17 c17 k17
  have b17 := F17.binds (ps := ["_law_script", "_law_k"]) fun _ _ _ _ _ _ us hl => match us, hl with | [_, _], _ => rfl
  have F18 := fun_mk (x := "_law_draw") (qual := "_law_draw") (st := sLDraw) l18 c18 k18
  have b18 := F18.binds (ps := ["_law_script", "_law_k", "_law_prime", "_law_many"]) fun _ _ _ _ _ _ us hl => match us, hl with | [_, _, _, _], _ => rfl
  have F19 := fun_mk (x := "_law_great") (qual := "_law_great") (st := sLGreat) l19 c19 k19
  have b19 := F19.binds (ps := ["_law_script", "_law_k", "_law_most"]) fun _ _ _ _ _ _ us hl => match us, hl with | [_, _, _], _ => rfl
  have F20 := fun_mk (x := "_law_whole") (qual := "_law_whole") (st := sLWhole) l20 c20 k20
  have b20 := F20.binds (ps := ["_law_thing"]) fun _ _ _ _ _ _ us hl => match us, hl with | [_], _ => rfl
  have F21 := fun_mk (x := "_law_tag") (qual := "_law_tag") (st := sLTag) l21 c21 k21
  have b21 := F21.binds (ps := ["_law_script", "_law_number_here"]) fun _ _ _ _ _ _ us hl => match us, hl with | [_, _], _ => rfl
  have F22 := fun_mk (x := "_law_lift") (qual := "_law_lift") (st := sLLift) l22 c22 k22
  have b22 := F22.binds (ps := ["_law_script", "_law_at", "_law_floors"]) fun _ _ _ _ _ _ us hl => match us, hl with | [_, _, _], _ => rfl
  have F23 := fun_mk (x := "_law_house") (qual := "_law_house") (st := sLHouse) l23 c23 k23
  have b23 := F23.binds (ps := ["_law_script", "_law_most"]) fun _ _ _ _ _ _ us hl => match us, hl with | [_, _], _ => rfl
  have F24 := fun_mk (x := "_law_rider") (qual := "_law_rider") (st := sLRider) l24 c24 k24
  have b24 := F24.binds (ps := ["_law_script", "_law_at", "_law_house_here", "_law_tag_here", "_law_lifts"]) fun _ _ _ _ _ _ us hl => match us, hl with | [_, _, _, _, _], _ => rfl
  have F25 := fun_mk (x := "_law_deed") (qual := "_law_deed") (st := sLDeed) l25 c25 k25
  have b25 := F25.binds (ps := ["_law_script", "_law_at", "_law_house_here", "_law_tag_here"]) fun _ _ _ _ _ _ us hl => match us, hl with | [_, _, _, _], _ => rfl
  have F26 := fun_mk (x := "_law_shown_deed") (qual := "_law_shown_deed") (st := sLShownDeed) l26 c26 k26
  have b26 := F26.binds (ps := ["_law_deed_here"]) fun _ _ _ _ _ _ us hl => match us, hl with | [_], _ => rfl
  have F27 := fun_mk (x := "_law_shown") (qual := "_law_shown") (st := sLShown) l27 c27 k27
  have b27 := F27.binds (ps := ["_law_deeds"]) fun _ _ _ _ _ _ us hl => match us, hl with | [_], _ => rfl
  have F28 := fun_mk (x := "_law_number") (qual := "_law_number") (st := sLNumber) l28 c28 k28
  have b28 := F28.binds (ps := ["_law_word"]) fun _ _ _ _ _ _ us hl => match us, hl with | [_], _ => rfl
  have F29 := fun_mk (x := "_law_come_read") (qual := "_law_come_read") (st := sLComeRead) l29 c29 k29
  have b29 := F29.binds (ps := ["_law_words", "_law_house_here", "_law_tag_here"]) fun _ _ _ _ _ _ us hl => match us, hl with | [_, _, _], _ => rfl
  have F30 := fun_mk (x := "_law_part_read") (qual := "_law_part_read") (st := sLPartRead) l30 c30 k30
  have b30 := F30.binds (ps := ["_law_part", "_law_house_here", "_law_tag_here"]) fun _ _ _ _ _ _ us hl => match us, hl with | [_, _, _], _ => rfl
  have F31 := fun_mk (x := "_law_turn_read") (qual := "_law_turn_read") (st := sLTurnRead) l31 c31 k31
  have b31 := F31.binds (ps := ["_law_text", "_law_house_here", "_law_first"]) fun _ _ _ _ _ _ us hl => match us, hl with | [_, _, _], _ => rfl
  have F32 := fun_mk (x := "_law_day") (qual := "_law_day") (st := sLDay) l32 c32 k32
  have b32 := F32.binds (ps := ["_law_script", "_law_house_here"]) fun _ _ _ _ _ _ us hl => match us, hl with | [_, _], _ => rfl
  have F33 := fun_mk (x := "_law_day_read") (qual := "_law_day_read") (st := sLDayRead) l33 c33 k33
  have b33 := F33.binds (ps := ["_law_text", "_law_house_here"]) fun _ _ _ _ _ _ us hl => match us, hl with | [_, _], _ => rfl
  have F34 := fun_mk (x := "_law_bent") (qual := "_law_bent") (st := sLBent) l34 c34 k34
  have b34 := F34.binds (ps := ["_law_script", "_law_text"]) fun _ _ _ _ _ _ us hl => match us, hl with | [_, _], _ => rfl
  have F35 := fun_mk (x := "_law_same") (qual := "_law_same") (st := sLSame) l35 c35 k35
  have b35 := F35.binds (ps := ["_law_told", "_law_due"]) fun _ _ _ _ _ _ us hl => match us, hl with | [_, _], _ => rfl
  have F36 := fun_mk (x := "_law_name") (qual := "_law_name") (st := sLName) l36 c36 k36
  have b36 := F36.binds (ps := ["_law_error"]) fun _ _ _ _ _ _ us hl => match us, hl with | [_], _ => rfl
  have F37 := fun_mk (x := "_law_read") (qual := "_law_read") (st := sLRead) l37 c37 k37
  have b37 := F37.binds (ps := ["_law_text", "_law_house_here"]) fun _ _ _ _ _ _ us hl => match us, hl with | [_, _], _ => rfl
  have F38 := fun_mk (x := "_law_right") (qual := "_law_right") (st := sLRight) l38 c38 k38
  have b38 := F38.binds (ps := ["_law_found", "_law_due"]) fun _ _ _ _ _ _ us hl => match us, hl with | [_, _], _ => rfl
  have F39 := fun_mk (x := "law") (qual := "law") (st := sLaw) l39 c39 k39
  have b39 := F39.binds (ps := ["_law_script"]) fun _ _ _ _ _ _ us hl => match us, hl with | [_], _ => rfl
  have k_NoFloor : L2.ExcK K kNoFloor := ⟨ga_NoFloor, gr_NoFloor, cl_NoFloor, mB_NoFloor, mO_NoFloor⟩
  have k_NoLift : L2.ExcK K kNoLift := ⟨ga_NoLift, gr_NoLift, cl_NoLift, mB_NoLift, mO_NoLift⟩
  have k_NoRide : L2.ExcK K kNoRide := ⟨ga_NoRide, gr_NoRide, cl_NoRide, mB_NoRide, mO_NoRide⟩
  have k_NoDeed : L2.ExcK K kNoDeed := ⟨ga_NoDeed, gr_NoDeed, cl_NoDeed, mB_NoDeed, mO_NoDeed⟩
  have b_CourtError : L2.BaseI K kCourtError := ⟨br_CourtError, bf_CourtError, bg_CourtError⟩
  have m_len := PySem.W.mg_none_of X G z_len
  have m_all := PySem.W.mg_none_of X G z_all
  have g_MOST_FIGURES := PySem.W.mg_of X G z_MOST_FIGURES
  have g_FIGURES := PySem.W.mg_of X G z_FIGURES
  have m_int := PySem.W.mg_none_of X G z_int
  have g_DEEDS_OF_A_LIFT := PySem.W.mg_of X G z_DEEDS_OF_A_LIFT
  have g_DEEDS_OF_ALL := PySem.W.mg_of X G z_DEEDS_OF_ALL
  have T_DEEDS_OF_A_LIFT : ∀ H : L2.Hp, L2.SqT K H kDEEDS_OF_A_LIFT [.str (Str.ofString "block"), .str (Str.ofString "stick"), .str (Str.ofString "free"), .str (Str.ofString "goods"), .str (Str.ofString "back")] := fun H => .inr ⟨_, _, _, l_DEEDS_OF_A_LIFT, rfl, rfl, L2.szN (by show 5 ≤ 1000000; decide), (.cons ⟨_, rfl⟩ (.cons ⟨_, rfl⟩ (.cons ⟨_, rfl⟩ (.cons ⟨_, rfl⟩ (.cons ⟨_, rfl⟩ .nil)))))⟩
  have T_DEEDS_OF_ALL : ∀ H : L2.Hp, L2.SqT K H kDEEDS_OF_ALL [.str (Str.ofString "fire"), .str (Str.ofString "calm")] := fun H => .inr ⟨_, _, _, l_DEEDS_OF_ALL, rfl, rfl, L2.szN (by show 2 ≤ 1000000; decide), (.cons ⟨_, rfl⟩ (.cons ⟨_, rfl⟩ .nil))⟩
  have m_list := PySem.W.mg_none_of X G z_list
  have m_str := PySem.W.mg_none_of X G z_str
  have m_isinstance := PySem.W.mg_none_of X G z_isinstance
  have m_bool := PySem.W.mg_none_of X G z_bool
  have m_tuple := PySem.W.mg_none_of X G z_tuple
  have m_range := PySem.W.mg_none_of X G z_range
  have m_ValueError := PySem.W.mg_none_of X G z_ValueError
  have e_CourtError : L2.Exc0 K kCourtError := ⟨_, _, i_CourtError, by decide +kernel⟩
  have cj_NoFloor_CourtError : L2.CatchesJ K (.ref kNoFloor) kCourtError := .inr ⟨kNoFloor, rfl, j_NoFloor, mj_NoFloor_CourtError⟩
  have cj_NoLift_CourtError : L2.CatchesJ K (.ref kNoLift) kCourtError := .inr ⟨kNoLift, rfl, j_NoLift, mj_NoLift_CourtError⟩
  have e_NoRide : L2.Exc0 K kNoRide := ⟨_, _, i_NoRide, by decide +kernel⟩
  have cj_NoRide_CourtError : L2.CatchesJ K (.ref kNoRide) kCourtError := .inl ⟨kNoRide, rfl, e_NoRide, mj_NoRide_CourtError⟩
  have e_NoDeed : L2.Exc0 K kNoDeed := ⟨_, _, i_NoDeed, by decide +kernel⟩
  have cj_NoDeed_CourtError : L2.CatchesJ K (.ref kNoDeed) kCourtError := .inl ⟨kNoDeed, rfl, e_NoDeed, mj_NoDeed_CourtError⟩
  refine ⟨PySem.W.fnOf "law" "law" (defArgs sLaw) (defBody sLaw) (defScope sLaw) .none kV39 dc39 pm39 an39 cd39 ct39, fun s v => .of_eq rfl, fun base _ _ => ?_⟩
  have q1 := ok_xFloor (P := l.prog) (w := w) (mg := mg) (base := base) F1 b_CourtError g_CourtError j_NoFloor sa_NoFloor A_NoFloor_floor mO_NoFloor
  have y_NoFloor : L2.XMk l.prog w K mg base _ "NoFloor" kNoFloor _ := ⟨_, _, _, ⟨j_NoFloor, in_NoFloor, fn1, kp_NoFloor⟩, q1, b1, g_NoFloor⟩
  have q2 := ok_xLift (P := l.prog) (w := w) (mg := mg) (base := base) F2 b_CourtError g_CourtError j_NoLift sa_NoLift A_NoLift_lift mO_NoLift
  have y_NoLift : L2.XMk l.prog w K mg base _ "NoLift" kNoLift _ := ⟨_, _, _, ⟨j_NoLift, in_NoLift, fn2, kp_NoLift⟩, q2, b2, g_NoLift⟩
  have q3 := ok_nFloor (P := l.prog) (w := w) (mg := mg) (base := base) F3 y_NoFloor
  have x_need_floor : L2.CalX l.prog w K mg base _ "need_floor" ["house", "floor"] _ := ⟨_, _, q3, b3, k3, PySem.W.mg_of X G a3⟩
  have q4 := ok_nLift (P := l.prog) (w := w) (mg := mg) (base := base) F4 m_len y_NoLift
  have x_need_lift : L2.CalX l.prog w K mg base _ "need_lift" ["house", "lift"] _ := ⟨_, _, q4, b4, k4, PySem.W.mg_of X G a4⟩
  have q5 := ok_nRide (kNoLift := kNoLift) (kNoDeed := kNoDeed) (P := l.prog) (w := w) (mg := mg) (base := base) F5 x_need_floor g_NoRide i_NoRide
  have x_need_ride : L2.CalX l.prog w K mg base _ "need_ride" ["house", "start", "goal"] _ := ⟨_, _, q5, b5, k5, PySem.W.mg_of X G a5⟩
  have q6 := ok_need (P := l.prog) (w := w) (mg := mg) (base := base) F6 x_need_ride x_need_lift
  have x_need_deed : L2.CalX l.prog w K mg base _ "need_deed" ["house", "deed"] _ := ⟨_, _, q6, b6, k6, PySem.W.mg_of X G a6⟩
  have q7 := ok_wn (P := l.prog) (w := w) (mg := mg) (base := base) F7 m_len m_all g_MOST_FIGURES g_FIGURES
  have c_writes_number : L2.Cal l.prog w K mg base _ "writes_number" ["text"] _ := ⟨_, _, q7, b7, k7, PySem.W.mg_of X G a7⟩
  have q8 := ok_num (P := l.prog) (w := w) (mg := mg) (base := base) F8 m_int c_writes_number
  have c_number_of : L2.Cal l.prog w K mg base _ "number_of" ["text"] _ := ⟨_, _, q8, b8, k8, PySem.W.mg_of X G a8⟩
  have q9 := ok_rnum (P := l.prog) (w := w) (mg := mg) (base := base) F9 g_NoDeed i_NoDeed c_number_of
  have x_read_number : L2.CalX l.prog w K mg base _ "read_number" ["word"] _ := ⟨_, _, q9, b9, k9, PySem.W.mg_of X G a9⟩
  have q10 := ok_rdeed (P := l.prog) (w := w) (mg := mg) (base := base) F10 m_len g_NoDeed i_NoDeed g_DEEDS_OF_A_LIFT g_DEEDS_OF_ALL T_DEEDS_OF_A_LIFT T_DEEDS_OF_ALL x_read_number
  have x_read_deed : L2.CalX l.prog w K mg base _ "read_deed" ["part", "tag"] _ := ⟨_, _, q10, b10, k10, PySem.W.mg_of X G a10⟩
  have q11 := ok_rturn (P := l.prog) (w := w) (mg := mg) (base := base) F11 x_read_deed x_need_deed
  have xd_read_turn : L2.CalD l.prog w K mg base _ "read_turn" ["text", "house", "first"] [.int 0] _ := ⟨_, _, _, q11, bd11, .cons ⟨_, rfl⟩ .nil, k11, PySem.W.mg_of X G a11⟩
  have x_read_turn : L2.CalX l.prog w K mg base _ "read_turn" ["text", "house", "first"] _ := ⟨_, _, q11, b11, k11, PySem.W.mg_of X G a11⟩
  have q12 := ok_sdeed (P := l.prog) (w := w) (mg := mg) (base := base) F12 m_list m_str
  have c_shown_deed : L2.Cal l.prog w K mg base _ "shown_deed" ["deed"] _ := ⟨_, _, q12, b12, k12, PySem.W.mg_of X G a12⟩
  have q13 := ok_sturn (P := l.prog) (w := w) (mg := mg) (base := base) F13 c_shown_deed
  have c_shown_turn : L2.Cal l.prog w K mg base _ "shown_turn" ["deeds"] _ := ⟨_, _, q13, b13, k13, PySem.W.mg_of X G a13⟩
  have q14 := ok_com (P := l.prog) (w := w) (mg := mg) (base := base) F14 
  have c_comings : L2.Cal l.prog w K mg base _ "comings" ["deeds"] _ := ⟨_, _, q14, b14, k14, PySem.W.mg_of X G a14⟩
  have q15 := ok_rday (P := l.prog) (w := w) (mg := mg) (base := base) F15 m_len x_read_turn c_comings
  have x_read_day : L2.CalX l.prog w K mg base _ "read_day" ["text", "house"] _ := ⟨_, _, q15, b15, k15, PySem.W.mg_of X G a15⟩
  have q16 := ok_sday (P := l.prog) (w := w) (mg := mg) (base := base) F16 c_shown_turn
  have c_shown_day : L2.Cal l.prog w K mg base _ "shown_day" ["day"] _ := ⟨_, _, q16, b16, k16, PySem.W.mg_of X G a16⟩
  have q17 := ok_cell (P := l.prog) (w := w) (mg := mg) (base := base) F17 m_len
  have c_law_cell : L2.Cal l.prog w K mg base _ "_law_cell" ["_law_script", "_law_k"] _ := ⟨_, _, q17, b17, k17, PySem.W.mg_of X G a17⟩
  have q18 := ok_dr (P := l.prog) (w := w) (mg := mg) (base := base) F18 c_law_cell
  have c_law_draw : L2.Cal l.prog w K mg base _ "_law_draw" ["_law_script", "_law_k", "_law_prime", "_law_many"] _ := ⟨_, _, q18, b18, k18, PySem.W.mg_of X G a18⟩
  have q19 := ok_gr (P := l.prog) (w := w) (mg := mg) (base := base) F19 c_law_cell
  have c_law_great : L2.Cal l.prog w K mg base _ "_law_great" ["_law_script", "_law_k", "_law_most"] _ := ⟨_, _, q19, b19, k19, PySem.W.mg_of X G a19⟩
  have q20 := ok_whole (P := l.prog) (w := w) (mg := mg) (base := base) F20 m_isinstance m_int m_bool
  have c_law_whole : L2.Cal l.prog w K mg base _ "_law_whole" ["_law_thing"] _ := ⟨_, _, q20, b20, k20, PySem.W.mg_of X G a20⟩
  have q21 := ok_tag (P := l.prog) (w := w) (mg := mg) (base := base) F21 c_law_draw c_law_great
  have c_law_tag : L2.Cal l.prog w K mg base _ "_law_tag" ["_law_script", "_law_number_here"] _ := ⟨_, _, q21, b21, k21, PySem.W.mg_of X G a21⟩
  have q22 := ok_lift (P := l.prog) (w := w) (mg := mg) (base := base) F22 c_law_draw
  have c_law_lift : L2.Cal l.prog w K mg base _ "_law_lift" ["_law_script", "_law_at", "_law_floors"] _ := ⟨_, _, q22, b22, k22, PySem.W.mg_of X G a22⟩
  have q23 := ok_house (P := l.prog) (w := w) (mg := mg) (base := base) F23 m_tuple m_range c_law_draw c_law_lift
  have c_law_house : L2.Cal l.prog w K mg base _ "_law_house" ["_law_script", "_law_most"] _ := ⟨_, _, q23, b23, k23, PySem.W.mg_of X G a23⟩
  have q24 := ok_rider (P := l.prog) (w := w) (mg := mg) (base := base) F24 m_len c_law_draw
  have c_law_rider : L2.Cal l.prog w K mg base _ "_law_rider" ["_law_script", "_law_at", "_law_house_here", "_law_tag_here", "_law_lifts"] _ := ⟨_, _, q24, b24, k24, PySem.W.mg_of X G a24⟩
  have q25 := ok_deed (P := l.prog) (w := w) (mg := mg) (base := base) F25 m_len c_law_draw c_law_rider
  have c_law_deed : L2.Cal l.prog w K mg base _ "_law_deed" ["_law_script", "_law_at", "_law_house_here", "_law_tag_here"] _ := ⟨_, _, q25, b25, k25, PySem.W.mg_of X G a25⟩
  have q26 := ok_lsdeed (P := l.prog) (w := w) (mg := mg) (base := base) F26 m_str
  have c_law_shown_deed : L2.Cal l.prog w K mg base _ "_law_shown_deed" ["_law_deed_here"] _ := ⟨_, _, q26, b26, k26, PySem.W.mg_of X G a26⟩
  have q27 := ok_lshown (P := l.prog) (w := w) (mg := mg) (base := base) F27 c_law_shown_deed
  have c_law_shown : L2.Cal l.prog w K mg base _ "_law_shown" ["_law_deeds"] _ := ⟨_, _, q27, b27, k27, PySem.W.mg_of X G a27⟩
  have q28 := ok_lnum (P := l.prog) (w := w) (mg := mg) (base := base) F28 m_len m_int
  have c_law_number : L2.Cal l.prog w K mg base _ "_law_number" ["_law_word"] _ := ⟨_, _, q28, b28, k28, PySem.W.mg_of X G a28⟩
  have q29 := ok_cread (P := l.prog) (w := w) (mg := mg) (base := base) F29 m_len c_law_number
  have c_law_come_read : L2.Cal l.prog w K mg base _ "_law_come_read" ["_law_words", "_law_house_here", "_law_tag_here"] _ := ⟨_, _, q29, b29, k29, PySem.W.mg_of X G a29⟩
  have q30 := ok_pread (P := l.prog) (w := w) (mg := mg) (base := base) F30 m_len c_law_number c_law_come_read
  have c_law_part_read : L2.Cal l.prog w K mg base _ "_law_part_read" ["_law_part", "_law_house_here", "_law_tag_here"] _ := ⟨_, _, q30, b30, k30, PySem.W.mg_of X G a30⟩
  have q31 := ok_lturn (P := l.prog) (w := w) (mg := mg) (base := base) F31 m_int c_law_part_read
  have c_law_turn_read : L2.Cal l.prog w K mg base _ "_law_turn_read" ["_law_text", "_law_house_here", "_law_first"] _ := ⟨_, _, q31, b31, k31, PySem.W.mg_of X G a31⟩
  have q32 := ok_lday (P := l.prog) (w := w) (mg := mg) (base := base) F32 m_range m_len c_law_draw c_law_tag c_law_deed
  have c_law_day : L2.Cal l.prog w K mg base _ "_law_day" ["_law_script", "_law_house_here"] _ := ⟨_, _, q32, b32, k32, PySem.W.mg_of X G a32⟩
  have q33 := ok_ldyr (P := l.prog) (w := w) (mg := mg) (base := base) F33 m_len c_law_turn_read
  have c_law_day_read : L2.Cal l.prog w K mg base _ "_law_day_read" ["_law_text", "_law_house_here"] _ := ⟨_, _, q33, b33, k33, PySem.W.mg_of X G a33⟩
  have q34 := ok_bent (P := l.prog) (w := w) (mg := mg) (base := base) F34 m_len c_law_draw
  have c_law_bent : L2.Cal l.prog w K mg base _ "_law_bent" ["_law_script", "_law_text"] _ := ⟨_, _, q34, b34, k34, PySem.W.mg_of X G a34⟩
  have q35 := ok_same (P := l.prog) (w := w) (mg := mg) (base := base) F35 m_isinstance m_list m_tuple m_bool m_len m_range c_law_whole
  have c_law_same : L2.Cal l.prog w K mg base _ "_law_same" ["_law_told", "_law_due"] _ := ⟨_, _, q35, b35, k35, PySem.W.mg_of X G a35⟩
  have q36 := ok_name (P := l.prog) (w := w) (mg := mg) (base := base) F36 m_isinstance m_ValueError m_len g_NoFloor g_NoLift g_Twice g_NoRide g_NoDeed g_NoDeal g_NoHouse g_NoRule g_NoIll g_NoLine g_Empty g_TooMany (Tks.mk t_NoFloor_NoFloor t_NoFloor_NoLift t_NoFloor_Twice t_NoFloor_NoRide t_NoFloor_NoDeed t_NoFloor_NoDeal t_NoFloor_NoHouse t_NoFloor_NoRule t_NoFloor_NoIll t_NoFloor_NoLine t_NoFloor_Empty t_NoFloor_TooMany t_NoFloor_ValueError k_NoFloor) (Tks.mk t_NoLift_NoFloor t_NoLift_NoLift t_NoLift_Twice t_NoLift_NoRide t_NoLift_NoDeed t_NoLift_NoDeal t_NoLift_NoHouse t_NoLift_NoRule t_NoLift_NoIll t_NoLift_NoLine t_NoLift_Empty t_NoLift_TooMany t_NoLift_ValueError k_NoLift) (Tks.mk t_NoRide_NoFloor t_NoRide_NoLift t_NoRide_Twice t_NoRide_NoRide t_NoRide_NoDeed t_NoRide_NoDeal t_NoRide_NoHouse t_NoRide_NoRule t_NoRide_NoIll t_NoRide_NoLine t_NoRide_Empty t_NoRide_TooMany t_NoRide_ValueError k_NoRide) (Tks.mk t_NoDeed_NoFloor t_NoDeed_NoLift t_NoDeed_Twice t_NoDeed_NoRide t_NoDeed_NoDeed t_NoDeed_NoDeal t_NoDeed_NoHouse t_NoDeed_NoRule t_NoDeed_NoIll t_NoDeed_NoLine t_NoDeed_Empty t_NoDeed_TooMany t_NoDeed_ValueError k_NoDeed) hd_NoFloor hd_NoLift A_NoFloor_floor A_NoLift_lift c_law_whole
  have c_law_name : L2.Cal l.prog w K mg base _ "_law_name" ["_law_error"] _ := ⟨_, _, q36, b36, k36, PySem.W.mg_of X G a36⟩
  have q37 := ok_read (P := l.prog) (w := w) (mg := mg) (base := base) F37 g_CourtError e_CourtError cj_NoFloor_CourtError cj_NoLift_CourtError cj_NoRide_CourtError cj_NoDeed_CourtError x_read_day c_law_name
  have c_law_read : L2.Cal l.prog w K mg base _ "_law_read" ["_law_text", "_law_house_here"] _ := ⟨_, _, q37, b37, k37, PySem.W.mg_of X G a37⟩
  have q38 := ok_right (P := l.prog) (w := w) (mg := mg) (base := base) F38 m_isinstance m_list m_len m_range c_law_same
  have c_law_right : L2.Cal l.prog w K mg base _ "_law_right" ["_law_found", "_law_due"] _ := ⟨_, _, q38, b38, k38, PySem.W.mg_of X G a38⟩
  exact ok_law F39 m_isinstance m_str m_list c_law_house c_law_day c_shown_day c_law_shown c_law_bent c_law_day_read c_law_read c_law_right
theorem walk {l : PySem.W.OpenLaw} {q : Program} {loose : List Str} {XP : (Str → Option Value) → Heap → Prop} {YP : World → Heap → Prop} {d : DefRec} {K : Params → PySem.W.Frag} (hn : l.most = some 63) (hdf : d.params.defaults = [])
    (hY : ∀ (w : World) (h : Heap), YP w h → (K w.params).In h)
    (F : ∀ (w : World) (mg : Str → Option Value) (fa : Addr) (h : Heap), (K w.params).In h → h.Ns mainGlobals mg → mg d.name = some (.ref fa) →
      ∃ fd : FuncData, (∀ (s : Shared) (u : Value), BindsTo s fd ⟨[u], []⟩ [("_law_script", u)]) ∧ ∀ base : Heap, (K w.params).In base → base.Ns mainGlobals mg → FnOk l.prog w (K w.params) mg base CX0 9 fa fd ["_law_script"] (spLaw (K w.params))) :
    PySem.W.WalkO q loose XP YP l.row.toRowW d [] (fun f vs => PySem.call f vs) :=
  L2.walk_ofB (n := 63) (k := 9) (x := "_law_script") (CX := fun _ => CX0) (sp := fun w => spLaw (K w.params)) hn (by decide) hdf ⟨rfl, by decide, by decide⟩ hY F (fun _ _ a ns hl hb hS => law_true hS hl hb) fun _ _ _ _ _ z => z
end My
open PySem PySem.W PyProof.Rows
set_option maxRecDepth 100000 in
set_option maxHeartbeats 0 in
theorem PySem.Challenge.cw_liftcourt_k41_days_written_holds : PySem.Challenge.rw_liftcourt_k41_days_written.Holds := by
  w_on; o_law; k_head; (case hw => w_witness2)
  k_fill
  refine My.walk (l := PySem.Challenge.rw_liftcourt_k41_days_written) rfl rfl (fun w h Y => PySem.W.kIn_of Y) ?F
  case F =>
    intro w mg fa h KX G hmg
    refine' My.all_mk KX G hmg ?z_NoFloor ?z_NoLift ?z_Twice ?z_NoRide ?z_NoDeed ?z_NoDeal ?z_NoHouse ?z_NoRule ?z_NoIll ?z_NoLine ?z_Empty ?z_TooMany ?z_CourtError ?a1 ?l1 ?c1 ?k1 ?fn1 ?a2 ?l2 ?c2 ?k2 ?fn2 ?a3 ?l3 ?c3 ?k3 ?a4 ?l4 ?c4 ?k4 ?a5 ?l5 ?c5 ?k5 ?a6 ?l6 ?c6 ?k6 ?a7 ?l7 ?c7 ?k7 ?a8 ?l8 ?c8 ?k8 ?a9 ?l9 ?c9 ?k9 ?a10 ?l10 ?c10 ?k10 ?a11 ?l11 ?c11 ?k11 ?lT11 ?a12 ?l12 ?c12 ?k12 ?a13 ?l13 ?c13 ?k13 ?a14 ?l14 ?c14 ?k14 ?a15 ?l15 ?c15 ?k15 ?a16 ?l16 ?c16 ?k16 ?a17 ?l17 ?c17 ?k17 ?a18 ?l18 ?c18 ?k18 ?a19 ?l19 ?c19 ?k19 ?a20 ?l20 ?c20 ?k20 ?a21 ?l21 ?c21 ?k21 ?a22 ?l22 ?c22 ?k22 ?a23 ?l23 ?c23 ?k23 ?a24 ?l24 ?c24 ?k24 ?a25 ?l25 ?c25 ?k25 ?a26 ?l26 ?c26 ?k26 ?a27 ?l27 ?c27 ?k27 ?a28 ?l28 ?c28 ?k28 ?a29 ?l29 ?c29 ?k29 ?a30 ?l30 ?c30 ?k30 ?a31 ?l31 ?c31 ?k31 ?a32 ?l32 ?c32 ?k32 ?a33 ?l33 ?c33 ?k33 ?a34 ?l34 ?c34 ?k34 ?a35 ?l35 ?c35 ?k35 ?a36 ?l36 ?c36 ?k36 ?a37 ?l37 ?c37 ?k37 ?a38 ?l38 ?c38 ?k38 ?a39 ?l39 ?c39 ?k39 ?t_NoFloor_NoFloor ?t_NoFloor_NoLift ?t_NoFloor_Twice ?t_NoFloor_NoRide ?t_NoFloor_NoDeed ?t_NoFloor_NoDeal ?t_NoFloor_NoHouse ?t_NoFloor_NoRule ?t_NoFloor_NoIll ?t_NoFloor_NoLine ?t_NoFloor_Empty ?t_NoFloor_TooMany ?t_NoFloor_ValueError ?ga_NoFloor ?gr_NoFloor ?cl_NoFloor ?mB_NoFloor ?mO_NoFloor ?t_NoLift_NoFloor ?t_NoLift_NoLift ?t_NoLift_Twice ?t_NoLift_NoRide ?t_NoLift_NoDeed ?t_NoLift_NoDeal ?t_NoLift_NoHouse ?t_NoLift_NoRule ?t_NoLift_NoIll ?t_NoLift_NoLine ?t_NoLift_Empty ?t_NoLift_TooMany ?t_NoLift_ValueError ?ga_NoLift ?gr_NoLift ?cl_NoLift ?mB_NoLift ?mO_NoLift ?t_NoRide_NoFloor ?t_NoRide_NoLift ?t_NoRide_Twice ?t_NoRide_NoRide ?t_NoRide_NoDeed ?t_NoRide_NoDeal ?t_NoRide_NoHouse ?t_NoRide_NoRule ?t_NoRide_NoIll ?t_NoRide_NoLine ?t_NoRide_Empty ?t_NoRide_TooMany ?t_NoRide_ValueError ?ga_NoRide ?gr_NoRide ?cl_NoRide ?mB_NoRide ?mO_NoRide ?t_NoDeed_NoFloor ?t_NoDeed_NoLift ?t_NoDeed_Twice ?t_NoDeed_NoRide ?t_NoDeed_NoDeed ?t_NoDeed_NoDeal ?t_NoDeed_NoHouse ?t_NoDeed_NoRule ?t_NoDeed_NoIll ?t_NoDeed_NoLine ?t_NoDeed_Empty ?t_NoDeed_TooMany ?t_NoDeed_ValueError ?ga_NoDeed ?gr_NoDeed ?cl_NoDeed ?mB_NoDeed ?mO_NoDeed ?br_CourtError ?bf_CourtError ?bg_CourtError ?j_NoFloor ?sa_NoFloor ?A_NoFloor_floor ?j_NoLift ?sa_NoLift ?A_NoLift_lift ?in_NoFloor ?kp_NoFloor ?z_len ?in_NoLift ?kp_NoLift ?i_NoRide ?z_all ?z_MOST_FIGURES ?z_FIGURES ?z_int ?i_NoDeed ?z_DEEDS_OF_A_LIFT ?z_DEEDS_OF_ALL ?l_DEEDS_OF_A_LIFT ?l_DEEDS_OF_ALL ?z_list ?z_str ?z_isinstance ?z_bool ?z_tuple ?z_range ?z_ValueError ?hd_NoFloor ?hd_NoLift ?i_CourtError ?mj_NoFloor_CourtError ?mj_NoLift_CourtError ?mj_NoRide_CourtError ?mj_NoDeed_CourtError
    (case z_NoFloor => k_is)
    (case z_NoLift => k_is)
    (case z_Twice => k_is)
    (case z_NoRide => k_is)
    (case z_NoDeed => k_is)
    (case z_NoDeal => k_is)
    (case z_NoHouse => k_is)
    (case z_NoRule => k_is)
    (case z_NoIll => k_is)
    (case z_NoLine => k_is)
    (case z_Empty => k_is)
    (case z_TooMany => k_is)
    (case z_CourtError => k_is)
    (case a1 => k_is)
    (case l1 => k_is)
    (case c1 => k_is)
    (case k1 => k_is)
    (case fn1 => k_is)
    (case a2 => k_is)
    (case l2 => k_is)
    (case c2 => k_is)
    (case k2 => k_is)
    (case fn2 => k_is)
    (case a3 => k_is)
    (case l3 => k_is)
    (case c3 => k_is)
    (case k3 => k_is)
    (case a4 => k_is)
    (case l4 => k_is)
    (case c4 => k_is)
    (case k4 => k_is)
    (case a5 => k_is)
    (case l5 => k_is)
    (case c5 => k_is)
    (case k5 => k_is)
    (case a6 => k_is)
    (case l6 => k_is)
    (case c6 => k_is)
    (case k6 => k_is)
    (case a7 => k_is)
    (case l7 => k_is)
    (case c7 => k_is)
    (case k7 => k_is)
    (case a8 => k_is)
    (case l8 => k_is)
    (case c8 => k_is)
    (case k8 => k_is)
    (case a9 => k_is)
    (case l9 => k_is)
    (case c9 => k_is)
    (case k9 => k_is)
    (case a10 => k_is)
    (case l10 => k_is)
    (case c10 => k_is)
    (case k10 => k_is)
    (case a11 => k_is)
    (case l11 => k_is)
    (case c11 => k_is)
    (case k11 => k_is)
    (case lT11 => k_is)
    (case a12 => k_is)
    (case l12 => k_is)
    (case c12 => k_is)
    (case k12 => k_is)
    (case a13 => k_is)
    (case l13 => k_is)
    (case c13 => k_is)
    (case k13 => k_is)
    (case a14 => k_is)
    (case l14 => k_is)
    (case c14 => k_is)
    (case k14 => k_is)
    (case a15 => k_is)
    (case l15 => k_is)
    (case c15 => k_is)
    (case k15 => k_is)
    (case a16 => k_is)
    (case l16 => k_is)
    (case c16 => k_is)
    (case k16 => k_is)
    (case a17 => k_is)
    (case l17 => k_is)
    (case c17 => k_is)
    (case k17 => k_is)
    (case a18 => k_is)
    (case l18 => k_is)
    (case c18 => k_is)
    (case k18 => k_is)
    (case a19 => k_is)
    (case l19 => k_is)
    (case c19 => k_is)
    (case k19 => k_is)
    (case a20 => k_is)
    (case l20 => k_is)
    (case c20 => k_is)
    (case k20 => k_is)
    (case a21 => k_is)
    (case l21 => k_is)
    (case c21 => k_is)
    (case k21 => k_is)
    (case a22 => k_is)
    (case l22 => k_is)
    (case c22 => k_is)
    (case k22 => k_is)
    (case a23 => k_is)
    (case l23 => k_is)
    (case c23 => k_is)
    (case k23 => k_is)
    (case a24 => k_is)
    (case l24 => k_is)
    (case c24 => k_is)
    (case k24 => k_is)
    (case a25 => k_is)
    (case l25 => k_is)
    (case c25 => k_is)
    (case k25 => k_is)
    (case a26 => k_is)
    (case l26 => k_is)
    (case c26 => k_is)
    (case k26 => k_is)
    (case a27 => k_is)
    (case l27 => k_is)
    (case c27 => k_is)
    (case k27 => k_is)
    (case a28 => k_is)
    (case l28 => k_is)
    (case c28 => k_is)
    (case k28 => k_is)
    (case a29 => k_is)
    (case l29 => k_is)
    (case c29 => k_is)
    (case k29 => k_is)
    (case a30 => k_is)
    (case l30 => k_is)
    (case c30 => k_is)
    (case k30 => k_is)
    (case a31 => k_is)
    (case l31 => k_is)
    (case c31 => k_is)
    (case k31 => k_is)
    (case a32 => k_is)
    (case l32 => k_is)
    (case c32 => k_is)
    (case k32 => k_is)
    (case a33 => k_is)
    (case l33 => k_is)
    (case c33 => k_is)
    (case k33 => k_is)
    (case a34 => k_is)
    (case l34 => k_is)
    (case c34 => k_is)
    (case k34 => k_is)
    (case a35 => k_is)
    (case l35 => k_is)
    (case c35 => k_is)
    (case k35 => k_is)
    (case a36 => k_is)
    (case l36 => k_is)
    (case c36 => k_is)
    (case k36 => k_is)
    (case a37 => k_is)
    (case l37 => k_is)
    (case c37 => k_is)
    (case k37 => k_is)
    (case a38 => k_is)
    (case l38 => k_is)
    (case c38 => k_is)
    (case k38 => k_is)
    (case a39 => k_is)
    (case l39 => k_is)
    (case c39 => k_is)
    (case k39 => k_is)
    (case t_NoFloor_NoFloor => kernel_rfl)
    (case t_NoFloor_NoLift => kernel_rfl)
    (case t_NoFloor_Twice => kernel_rfl)
    (case t_NoFloor_NoRide => kernel_rfl)
    (case t_NoFloor_NoDeed => kernel_rfl)
    (case t_NoFloor_NoDeal => kernel_rfl)
    (case t_NoFloor_NoHouse => kernel_rfl)
    (case t_NoFloor_NoRule => kernel_rfl)
    (case t_NoFloor_NoIll => kernel_rfl)
    (case t_NoFloor_NoLine => kernel_rfl)
    (case t_NoFloor_Empty => kernel_rfl)
    (case t_NoFloor_TooMany => kernel_rfl)
    (case t_NoFloor_ValueError => kernel_rfl)
    (case ga_NoFloor => k_is)
    (case gr_NoFloor => k_is)
    (case cl_NoFloor => k_is)
    (case mB_NoFloor => k_is)
    (case mO_NoFloor => k_is)
    (case t_NoLift_NoFloor => kernel_rfl)
    (case t_NoLift_NoLift => kernel_rfl)
    (case t_NoLift_Twice => kernel_rfl)
    (case t_NoLift_NoRide => kernel_rfl)
    (case t_NoLift_NoDeed => kernel_rfl)
    (case t_NoLift_NoDeal => kernel_rfl)
    (case t_NoLift_NoHouse => kernel_rfl)
    (case t_NoLift_NoRule => kernel_rfl)
    (case t_NoLift_NoIll => kernel_rfl)
    (case t_NoLift_NoLine => kernel_rfl)
    (case t_NoLift_Empty => kernel_rfl)
    (case t_NoLift_TooMany => kernel_rfl)
    (case t_NoLift_ValueError => kernel_rfl)
    (case ga_NoLift => k_is)
    (case gr_NoLift => k_is)
    (case cl_NoLift => k_is)
    (case mB_NoLift => k_is)
    (case mO_NoLift => k_is)
    (case t_NoRide_NoFloor => kernel_rfl)
    (case t_NoRide_NoLift => kernel_rfl)
    (case t_NoRide_Twice => kernel_rfl)
    (case t_NoRide_NoRide => kernel_rfl)
    (case t_NoRide_NoDeed => kernel_rfl)
    (case t_NoRide_NoDeal => kernel_rfl)
    (case t_NoRide_NoHouse => kernel_rfl)
    (case t_NoRide_NoRule => kernel_rfl)
    (case t_NoRide_NoIll => kernel_rfl)
    (case t_NoRide_NoLine => kernel_rfl)
    (case t_NoRide_Empty => kernel_rfl)
    (case t_NoRide_TooMany => kernel_rfl)
    (case t_NoRide_ValueError => kernel_rfl)
    (case ga_NoRide => k_is)
    (case gr_NoRide => k_is)
    (case cl_NoRide => k_is)
    (case mB_NoRide => k_is)
    (case mO_NoRide => k_is)
    (case t_NoDeed_NoFloor => kernel_rfl)
    (case t_NoDeed_NoLift => kernel_rfl)
    (case t_NoDeed_Twice => kernel_rfl)
    (case t_NoDeed_NoRide => kernel_rfl)
    (case t_NoDeed_NoDeed => kernel_rfl)
    (case t_NoDeed_NoDeal => kernel_rfl)
    (case t_NoDeed_NoHouse => kernel_rfl)
    (case t_NoDeed_NoRule => kernel_rfl)
    (case t_NoDeed_NoIll => kernel_rfl)
    (case t_NoDeed_NoLine => kernel_rfl)
    (case t_NoDeed_Empty => kernel_rfl)
    (case t_NoDeed_TooMany => kernel_rfl)
    (case t_NoDeed_ValueError => kernel_rfl)
    (case ga_NoDeed => k_is)
    (case gr_NoDeed => k_is)
    (case cl_NoDeed => k_is)
    (case mB_NoDeed => k_is)
    (case mO_NoDeed => k_is)
    (case br_CourtError => k_is)
    (case bf_CourtError => k_is)
    (case bg_CourtError => k_is)
    (case j_NoFloor => kernel_rfl)
    (case sa_NoFloor => k_is)
    (case A_NoFloor_floor => k_is)
    (case j_NoLift => kernel_rfl)
    (case sa_NoLift => k_is)
    (case A_NoLift_lift => k_is)
    (case in_NoFloor => k_is)
    (case kp_NoFloor => k_is)
    (case z_len => k_is)
    (case in_NoLift => k_is)
    (case kp_NoLift => k_is)
    (case i_NoRide => kernel_rfl)
    (case z_all => k_is)
    (case z_MOST_FIGURES => k_is)
    (case z_FIGURES => k_is)
    (case z_int => k_is)
    (case i_NoDeed => kernel_rfl)
    (case z_DEEDS_OF_A_LIFT => k_is)
    (case z_DEEDS_OF_ALL => k_is)
    (case l_DEEDS_OF_A_LIFT => k_is)
    (case l_DEEDS_OF_ALL => k_is)
    (case z_list => k_is)
    (case z_str => k_is)
    (case z_isinstance => k_is)
    (case z_bool => k_is)
    (case z_tuple => k_is)
    (case z_range => k_is)
    (case z_ValueError => k_is)
    (case hd_NoFloor => k_is)
    (case hd_NoLift => k_is)
    (case i_CourtError => kernel_rfl)
    (case mj_NoFloor_CourtError => k_is)
    (case mj_NoLift_CourtError => k_is)
    (case mj_NoRide_CourtError => k_is)
    (case mj_NoDeed_CourtError => k_is)
