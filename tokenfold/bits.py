"""Sets of whole numbers from 0 on, each one number with a bit for each of them."""


def bits_of(numbers):
    """The set of these numbers, each of which may stand there more than once."""
    bits = 0
    for number in numbers:
        bits |= 1 << number
    return bits


def numbers_in(bits):
    """The numbers of a set, rising."""
    numbers = []
    while bits > 0:
        rest = bits & bits - 1
        numbers.append((bits ^ rest).bit_length() - 1)
        bits = rest
    return numbers
