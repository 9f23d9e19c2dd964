"""What rows of whole numbers can be made of others, by any factors, or by such from 0 on alone; all of it exactly."""

from math import gcd

from tokenfold.lattices import first_not_0, mixed, weighed


def shortened(numbers):
    """The numbers, divided by what divides all of them."""
    shared = 0
    for number in numbers:
        shared = gcd(shared, number)
    return [number // shared for number in numbers] if shared > 1 else list(numbers)


class Span:
    """All that can be made of the rows, each by a factor.

    The parts make the same. Of each is kept where its first number that isn't 0 stands, at which those behind have 0,
    and the factors by which it is made of the rows.
    """

    def __init__(self, rows):
        self.many = len(rows)
        self.parts = []
        for k, row in enumerate(rows):
            times, rest, factors = self.parted_off(row)
            at = first_not_0(rest)
            if at is not None:
                own = [-factor for factor in factors]
                own[k] += times
                both = shortened(rest + own)
                self.parts.append((at, both[:len(rest)], both[len(rest):]))

    def parted_off(self, row):
        """How many times the row, less which rest, is made of the rows by which factors; no rest where it can be."""
        times = 1
        rest = list(row)
        factors = [0] * self.many
        for at, part, own in self.parts:
            if rest[at] != 0:
                shared = gcd(rest[at], part[at])
                up = abs(part[at]) // shared
                less = up * rest[at] // part[at]
                times *= up
                rest = mixed(up, rest, less, part)
                factors = mixed(up, factors, -less, own)
        return times, rest, factors


class Shares:
    """The search for shares, from 0 on and together 1, by which the points make 0.

    Each row of it is an equation of the shares and of one more unknown a row, which lacks to what the row asks. All is
    told times factor, so that it stays whole. The last row, costs, is how much lacks in all.
    """

    def __init__(self, points):
        self.many = len(points)
        self.size = len(points[0])
        self.factor = 1
        self.rows = []
        for k in range(self.size + 1):
            own = [int(at == k) for at in range(self.size + 1)]
            if k < self.size:
                self.rows.append([point[k] for point in points] + own + [0])
            else:
                self.rows.append([1] * self.many + own + [1])
        self.basis = [self.many + k for k in range(self.size + 1)]
        self.costs = [-sum(column) for column in zip(*self.rows)]
        for k in range(self.size + 1):
            self.costs[self.many + k] = 0

    def run(self):
        """Goes on till nothing less can lack."""
        column = self.next_column()
        while column is not None:
            self.turn(self.next_row(column), column)
            column = self.next_column()

    def next_column(self):
        """The first share by more of which less would lack; None where there is none."""
        # Always the first one, here and of the rows: so no basis comes twice, and it ends.
        for column in range(self.many):
            if self.costs[column] < 0:
                return column
        return None

    def next_row(self, column):
        """The row that first bars more of that share."""
        best = None
        for k, row in enumerate(self.rows):
            if row[column] <= 0:
                continue
            if best is None:
                best = k
                continue
            ahead = row[-1] * self.rows[best][column] - self.rows[best][-1] * row[column]
            if ahead < 0 or (ahead == 0 and self.basis[k] < self.basis[best]):
                best = k
        return best

    def turn(self, at, column):
        """Lets that share stand for what stood for the row."""
        own = self.rows[at]
        pivot = own[column]
        for k, row in enumerate(list(self.rows)):
            if k != at:
                self.rows[k] = self.without(row, own, column)
        self.costs = self.without(self.costs, own, column)
        self.factor = pivot
        self.basis[at] = column

    def without(self, row, own, column):
        """The row, less as much of the other one as it takes for a 0 in that column."""
        # It always comes out even, as all numbers are determinants.
        return [number // self.factor for number in mixed(own[column], row, row[column], own)]

    def told(self):
        """The shares, if there are some; else None."""
        if self.costs[-1] != 0:
            return None
        shares = [0] * self.many
        for own, row in zip(self.basis, self.rows):
            if own < self.many:
                shares[own] = row[-1]
        return shortened(shares)

    def factors(self):
        """Where there are no shares, the factors by which each point comes to more than 0."""
        return shortened([cost - self.factor for cost in self.costs[self.many:self.many + self.size]])


def parted(points):
    """Tuple: shares from 0 on, not all 0, by which the points make 0, or None; then factors that weigh each above 0."""
    search = Shares(points)
    search.run()
    shares = search.told()
    if shares is not None:
        return (shares, None)
    return (None, smaller(search.factors(), points))


def smaller(factors, points):
    """Factors as small as are quickly found that weigh each of the points above 0, as those do."""
    greatest = max([abs(factor) for factor in factors])
    bound = 1
    while bound < greatest:
        rounded = [(2 * factor * bound + greatest) // (2 * greatest) for factor in factors]
        if min([weighed(rounded, point) for point in points]) > 0:
            return rounded
        bound *= 2
    return factors
