"""Masks: whole numbers that hold the numbers of their figures 1, written by twos."""


def bit(k):
    return 1 << k


def has(mask, k):
    # No mask holds a number below 0, and a shift by one would fail.
    return k >= 0 and (mask & bit(k)) != 0


def with_bit(mask, k):
    return mask | bit(k)


def without(mask, k):
    if has(mask, k):
        return mask - bit(k)
    return mask


def below(mask, k):
    # As in has: nothing lies below a number that is below 0.
    if k < 0:
        return 0
    return mask % bit(k)


def above(mask, k):
    return mask - below(mask, k + 1)


def mask_of(numbers):
    mask = 0
    for k in numbers:
        mask = with_bit(mask, k)
    return mask


def listed(mask):
    return [k for k in range(mask.bit_length()) if has(mask, k)]


def lowest(mask):
    numbers = listed(mask)
    return numbers[0] if numbers else None


def highest(mask):
    return mask.bit_length() - 1 if mask > 0 else None
