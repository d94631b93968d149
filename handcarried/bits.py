"""Lots as the bits of an integer, which are put together at once."""


def bits_of(lot):
    """The integer with a bit for each of some integers."""
    bits = 0
    for number in lot:
        bits = bits | 1 << number
    return bits


def lot_of(bits):
    """The lot whose bits an integer has."""
    return tuple([number for number in range(bits.bit_length()) if bits >> number & 1])
