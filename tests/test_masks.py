"""Point 4: masks, looked over against the figures of the number written by twos."""

import unittest

from liftcourt.masks import above, below, bit, has, highest, listed, lowest, mask_of, with_bit, without

SIZE = 200
FULL = 2 ** SIZE - 1
EDGES = [0, 1, 2, 3, 7, 8, 62, 63, 64, 65, 127, 128, 197, 198, 199]


def numbers_in(mask):
    figures = f"{mask:b}"[::-1]
    return [k for k, figure in enumerate(figures) if figure == "1"]


def worth(numbers):
    return sum(2 ** k for k in set(numbers))


def many_masks():
    single = [2 ** k for k in range(SIZE)]
    filled = [2 ** k - 1 for k in range(SIZE + 1)]
    holed = [FULL - 2 ** k for k in range(0, SIZE, 7)]
    # Powers of 3 have no plain pattern by twos; cut to each length, they give masks of all sizes.
    mixed = [3 ** 400 % 2 ** k for k in range(1, SIZE + 1)]
    return [0, FULL, FULL - 1, 2 ** 199 + 1] + single + filled + holed + mixed


MASKS = many_masks()


class OneNumber(unittest.TestCase):
    def test_the_mask_of_one_number(self):
        for k in range(SIZE):
            with self.subTest(k=k):
                self.assertEqual(bit(k), 2 ** k)
                self.assertIs(type(bit(k)), int)

    def test_whether_a_mask_holds_a_number_is_true_or_false(self):
        for mask in MASKS:
            held = numbers_in(mask)
            for k in range(SIZE):
                self.assertIs(has(mask, k), k in held, (mask, k))

    def test_the_mask_0_holds_nothing_and_the_full_one_all(self):
        for k in range(SIZE):
            self.assertIs(has(0, k), False)
            self.assertIs(has(FULL, k), True)

    def test_numbers_just_beyond_are_not_held(self):
        for mask in (0, 1, FULL):
            self.assertIs(has(mask, 200), False)
            self.assertIs(has(mask, -1), False)


class PutInAndLeftOut(unittest.TestCase):
    def test_a_number_is_put_in(self):
        for mask in MASKS:
            for k in EDGES:
                self.assertEqual(with_bit(mask, k), worth(numbers_in(mask) + [k]), (mask, k))

    def test_a_number_is_left_out(self):
        for mask in MASKS:
            for k in EDGES:
                kept = [number for number in numbers_in(mask) if number != k]
                self.assertEqual(without(mask, k), worth(kept), (mask, k))

    def test_a_number_that_is_there_already_changes_nothing_put_in(self):
        for mask in MASKS:
            for k in numbers_in(mask):
                self.assertEqual(with_bit(mask, k), mask, (mask, k))

    def test_a_number_that_is_not_there_changes_nothing_left_out(self):
        for mask in MASKS:
            held = numbers_in(mask)
            for k in [k for k in range(SIZE) if k not in held]:
                self.assertEqual(without(mask, k), mask, (mask, k))

    def test_put_in_and_left_out_at_both_ends(self):
        self.assertEqual(with_bit(0, 0), 1)
        self.assertEqual(with_bit(0, 199), 2 ** 199)
        self.assertEqual(without(1, 0), 0)
        self.assertEqual(without(2 ** 199, 199), 0)
        self.assertEqual(without(FULL, 199), 2 ** 199 - 1)
        self.assertEqual(without(0, 0), 0)
        self.assertEqual(without(0, 199), 0)


class AboveAndBelow(unittest.TestCase):
    def test_above_and_below_hold_what_is_greater_and_less(self):
        for mask in MASKS:
            held = numbers_in(mask)
            for k in EDGES:
                self.assertEqual(above(mask, k), worth([n for n in held if n > k]), (mask, k))
                self.assertEqual(below(mask, k), worth([n for n in held if n < k]), (mask, k))

    def test_both_ends(self):
        for mask in MASKS:
            self.assertEqual(below(mask, 0), 0)
            self.assertEqual(above(mask, 199), 0)
        self.assertEqual(above(FULL, 0), FULL - 1)
        self.assertEqual(below(FULL, 199), 2 ** 199 - 1)
        self.assertEqual(above(FULL, 198), 2 ** 199)
        self.assertEqual(below(FULL, 1), 1)

    def test_just_beyond_both_ends(self):
        for mask in MASKS:
            for far in (-1, -2, -3):
                self.assertEqual(above(mask, far), mask)
                self.assertEqual(below(mask, far), 0)
            for far in (200, 201):
                self.assertEqual(above(mask, far), 0)
                self.assertEqual(below(mask, far), mask)

    def test_the_number_itself_is_in_neither(self):
        for k in range(SIZE):
            self.assertEqual(above(bit(k), k), 0)
            self.assertEqual(below(bit(k), k), 0)
            self.assertEqual(above(FULL, k) + bit(k) + below(FULL, k), FULL)


class Lists(unittest.TestCase):
    def test_the_numbers_are_told_rising_in_a_list(self):
        for mask in MASKS:
            told = listed(mask)
            self.assertIs(type(told), list)
            self.assertEqual(told, numbers_in(mask))
        self.assertEqual(listed(0), [])
        self.assertEqual(listed(2 ** 199 + 1), [0, 199])
        self.assertEqual(listed(FULL), list(range(SIZE)))

    def test_the_list_told_is_the_askers_own(self):
        for mask in (0, 1, 22, FULL):
            first = listed(mask)
            second = listed(mask)
            self.assertIsNot(first, second)
            first.append(77)
            first.reverse()
            self.assertEqual(second, numbers_in(mask))
            self.assertEqual(listed(mask), numbers_in(mask))

    def test_the_mask_of_a_list(self):
        for mask in MASKS:
            self.assertEqual(mask_of(numbers_in(mask)), mask)
        self.assertEqual(mask_of([]), 0)
        self.assertEqual(mask_of([0]), 1)
        self.assertEqual(mask_of([199]), 2 ** 199)

    def test_in_any_order_and_some_twice(self):
        self.assertEqual(mask_of([4, 1, 2]), 22)
        self.assertEqual(mask_of([2, 1, 4, 1, 2, 2]), 22)
        self.assertEqual(mask_of([199, 0, 199, 0]), 2 ** 199 + 1)
        for mask in MASKS:
            numbers = numbers_in(mask)
            self.assertEqual(mask_of(numbers[::-1] + numbers[1::2]), mask)

    def test_a_list_of_the_greatest_length(self):
        self.assertEqual(mask_of([k * 7 % SIZE for k in range(1200)]), FULL)

    def test_the_list_handed_in_is_not_changed(self):
        for numbers in ([], [3], [5, 3, 5, 0, 199, 3]):
            before = list(numbers)
            mask_of(numbers)
            self.assertEqual(numbers, before)

    def test_a_list_changed_afterwards_changes_no_mask(self):
        numbers = [1, 2]
        mask = mask_of(numbers)
        numbers.append(5)
        self.assertEqual(mask, 6)
        self.assertEqual(mask_of([1, 2]), 6)


class Ends(unittest.TestCase):
    def test_least_and_greatest(self):
        for mask in MASKS:
            held = numbers_in(mask)
            self.assertEqual(lowest(mask), min(held, default=None), mask)
            self.assertEqual(highest(mask), max(held, default=None), mask)

    def test_none_of_the_mask_0(self):
        self.assertIsNone(lowest(0))
        self.assertIsNone(highest(0))

    def test_number_0_is_no_none(self):
        self.assertEqual((lowest(1), highest(1)), (0, 0))
        self.assertEqual((lowest(FULL), highest(FULL)), (0, 199))


def all_answers(mask, k):
    return (
        bit(k), has(mask, k), with_bit(mask, k), without(mask, k), above(mask, k), below(mask, k),
        listed(mask), mask_of(listed(mask)), lowest(mask), highest(mask),
    )


class AskedAgain(unittest.TestCase):
    def test_nothing_hangs_on_what_was_asked_before(self):
        asked = [(mask, k) for mask in MASKS[::9] for k in EDGES]
        forth = [all_answers(mask, k) for mask, k in asked]
        back = [all_answers(mask, k) for mask, k in asked[::-1]]
        self.assertEqual(forth, back[::-1])


if __name__ == "__main__":
    unittest.main()
