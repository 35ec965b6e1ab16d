"""Masks: sets of small numbers, kept as the bits of an integer."""


def mask_of(numbers):
    """The mask of these numbers."""
    mask = 0
    for number in numbers:
        mask = mask | 1 << number
    return mask


def numbers_in(mask):
    """The sorted list of the numbers in the mask."""
    found = []
    left = mask
    while left > 0:
        low = left & -left
        found.append(low.bit_length() - 1)
        left = left - low
    return found


def spread(following, mask):
    """All numbers to which those in the mask lead, themselves included: following has the mask of each next step."""
    found = mask
    new = mask
    while new > 0:
        low = new & -new
        more = following[low.bit_length() - 1] & ~found
        found = found | more
        new = (new - low) | more
    return found


def image(pairs, mask, size):
    """The two masks to which the numbers in the mask lead.

    There are as many pairs of masks as the size says; a number from there on stands as many sizes higher than one of
    those, and leads to what stands so much higher.
    """
    one = 0
    other = 0
    left = mask
    while left > 0:
        low = left & -left
        number = low.bit_length() - 1
        left = left - low
        plain = number % size
        pair = pairs[plain]
        one = one | pair[0] << (number - plain)
        other = other | pair[1] << (number - plain)
    return one, other
