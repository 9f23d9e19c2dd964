"""Whole numbers that solve equations: lists of as many factors as there are unknowns, whose weighed sum is to be 0."""

from math import gcd

from tokenfold.errors import TooGreat


def weighed(factors, numbers):
    """The sum of the numbers, each weighed by its factor."""
    return sum([factor * number for factor, number in zip(factors, numbers)])


def unit_rows(many):
    """So many rows of so many numbers, of each the one in its own place 1, all others 0."""
    return [[1 if at == k else 0 for at in range(many)] for k in range(many)]


def mixed(times, row, less, other):
    """So many times the row, less so many times the other one."""
    return [times * number - less * another for number, another in zip(row, other)]


def first_not_0(numbers):
    """Where the first of the numbers stands that isn't 0; None where all are."""
    for at, number in enumerate(numbers):
        if number != 0:
            return at
    return None


def eliminated(equations, many):
    """Equations that ask the same, each with an unknown of its own; the list of these; and the factor each has of it.

    The unknowns of their own are the last that may be, so that all others of an equation stand ahead of its own.
    """
    rows = [list(row) for row in equations]
    own = []
    factor = 1
    for unknown in reversed(range(many)):
        done = len(own)
        ahead = first_not_0([row[unknown] for row in rows[done:]])
        if ahead is None:
            continue
        rows[done], rows[done + ahead] = rows[done + ahead], rows[done]
        pivot = rows[done][unknown]
        for k in range(len(rows)):
            if k != done:
                # It always comes out even, so the numbers stay as small as determinants are.
                row = mixed(pivot, rows[k], rows[k][unknown], rows[done])
                rows[k] = [number // factor for number in row]
        factor = pivot
        own.append(unknown)
    return rows[:len(own)], own, factor


def bezout(one, other):
    """Two numbers such that the one times the first, and the other times the second, make their greatest divisor."""
    first, second = 1, 0
    next_first, next_second = 0, 1
    while other != 0:
        times = one // other
        one, other = other, one - times * other
        first, next_first = next_first, first - times * next_first
        second, next_second = next_second, second - times * next_second
    return first, second


def narrowed(rows, factors, modulus):
    """Rows in steps of which just those sums are made that the rows make and whose weighed sum the modulus divides.

    The rows are in steps, and make the modulus at each place alone: so each number may be taken modulo it, but at the
    row's own place.
    """
    found = []
    least = modulus
    least_row = [0] * len(rows)
    for at in reversed(range(len(rows))):
        worth = weighed(factors, rows[at]) % modulus
        shared = gcd(least, worth)
        times = least // shared
        row = [number % modulus for number in mixed(times, rows[at], worth // shared, least_row)]
        row[at] = times * rows[at][at]
        found.append(row)
        first, second = bezout(least, worth)
        least_row = [number % modulus for number in mixed(first, least_row, -second, rows[at])]
        least = shared
    return found[::-1]


def in_steps(rows):
    """Rows that make the same, where each number is from 0 on below that of the row whose own place it has."""
    found = []
    for at, row in enumerate(rows):
        for k in range(at + 1, len(rows)):
            row = mixed(1, row, row[k] // rows[k][k], rows[k])
        found.append(row)
    return found


def basis_of(equations, many):
    """The basis in steps of all solutions in whole numbers, each a tuple of so many."""
    solved, own, factor = eliminated(equations, many)
    free = [unknown for unknown in range(many) if unknown not in own]
    rows = unit_rows(len(free))
    for equation in solved:
        rows = narrowed(rows, [equation[unknown] for unknown in free], abs(factor))
    basis = []
    for row in in_steps(rows):
        numbers = [0] * many
        for unknown, number in zip(free, row):
            numbers[unknown] = number
        for unknown, equation in zip(own, solved):
            numbers[unknown] = -weighed([equation[k] for k in free], row) // factor
        basis.append(tuple(numbers))
    return basis


def made_by(basis, numbers):
    """How often each of the basis in steps is in the solution, which it makes."""
    rest = list(numbers)
    times = []
    for row in basis:
        at = first_not_0(row)
        times.append(rest[at] // row[at])
        rest = mixed(1, rest, times[-1], row)
    return tuple(times)


def least_of(equations, many, most):
    """All solutions without numbers below 0, or a common divisor, whose unknowns above 0 no other one has a part of.

    They are sorted; refused where of the first k equations, for some k, there are more than most.
    """
    rays = [(row, 1 << at) for at, row in enumerate(unit_rows(many))]
    if len(equations) == 0 and many > most:
        raise TooGreat(most)
    parting = 0
    for factors in equations:
        worths = [weighed(factors, numbers) for numbers, _ in rays]
        if first_not_0(worths) is not None:
            parting += 1
        rays = rays_in(rays, worths, parting + 1, most)
    return sorted([tuple(numbers) for numbers, _ in rays])


def rays_in(rays, worths, widest, most):
    """The least solutions that are worth 0, of rays: least solutions, each with the bits of its unknowns above 0.

    None of them has more than so many unknowns.
    """
    found = [ray for ray, worth in zip(rays, worths) if worth == 0]
    above = [(ray, worth) for ray, worth in zip(rays, worths) if worth > 0]
    below = [(ray, worth) for ray, worth in zip(rays, worths) if worth < 0]
    lots = sorted([lot for _, lot in rays], key=size_of)
    for (numbers, lot), worth in above:
        for (others, other), less in below:
            # Most have too many unknowns together, which is quickly counted.
            if size_of(lot | other) <= widest and are_beside(lot, other, lots):
                found.append((without_divisor(mixed(-less, numbers, -worth, others)), lot | other))
        if len(found) > most:
            break
    if len(found) > most:
        raise TooGreat(most)
    return found


def size_of(lot):
    """How many bits the lot has."""
    return f"{lot:b}".count("1")


def are_beside(lot, other, lots):
    """Whether no third one of the lots is within the two together."""
    both = lot | other
    for third in lots:
        if third | both == both and third != lot and third != other:
            return False
    return True


def without_divisor(numbers):
    """The numbers, divided by what divides all of them."""
    divisor = 0
    for number in numbers:
        divisor = gcd(divisor, number)
    return [number // divisor for number in numbers]
