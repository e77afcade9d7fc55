"""Sets of small numbers as masks: the binary digit of weight 2 ** k tells whether k is among them."""


def full_mask(many):
    """The mask of all numbers below this one."""
    return (1 << many) - 1


def has_bit(mask, number):
    """Whether the number is among those of the mask."""
    return (mask >> number) & 1 == 1


def first_bit(mask):
    """The least number in the mask, which is not empty."""
    return (mask & -mask).bit_length() - 1


def mask_of(numbers):
    """The mask of these numbers, none of which stands twice."""
    return sum([1 << number for number in numbers])


def within(mask, further):
    """Whether all numbers of the one mask are in the further one."""
    return mask & ~further == 0


def bits_in(mask, many):
    """The ascending list of the numbers below `many` that are in the mask."""
    return [number for number in range(many) if has_bit(mask, number)]


def either_mask(mask, further):
    """The mask of the numbers of either."""
    return mask | further


def both_mask(mask, further):
    """The mask of the numbers that are in both."""
    return mask & further


def joined_mask(masks):
    """The mask of the numbers of any of these masks."""
    joined = 0
    for mask in masks:
        joined = joined | mask
    return joined


def shared_mask(mask, further):
    """The mask of those numbers of the one that are in all the further masks, too."""
    for other in further:
        mask = mask & other
    return mask
