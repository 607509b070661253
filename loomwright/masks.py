"""Masks: whole numbers that tell numbers from 1 on, each by a bit."""


def bit_of(number):
    return 1 << (number - 1)


def mask_of(numbers):
    mask = 0
    for number in numbers:
        mask |= bit_of(number)
    return mask


# The mask of all numbers from 1 to most.
def mask_to(most):
    return (1 << most) - 1


def has_number(mask, number):
    return mask & bit_of(number) != 0


def numbers_of(mask):
    return [number for number in range(1, mask.bit_length() + 1) if has_number(mask, number)]


def union_of(masks):
    union = 0
    for mask in masks:
        union |= mask
    return union


# The mask of the numbers from 1 to most that the given one doesn't tell.
def other_mask(mask, most):
    return mask_to(most) ^ mask


# The mask with the numbers 1 to most standing from the last to the first.
def turned_mask(mask, most):
    return mask_of([most + 1 - number for number in numbers_of(mask)])
