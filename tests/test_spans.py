import random
import unittest

from tokenfold.spans import Span, parted


def weighed(factors, numbers):
    return sum(factor * number for factor, number in zip(factors, numbers, strict=True))


class Parted(unittest.TestCase):

    def seen(self, points):
        """Which of both it is, when it was seen that it is so."""
        shares, factors = parted(points)
        self.assertNotEqual(shares is None, factors is None)
        if shares is None:
            self.assertTrue(all(weighed(factors, point) > 0 for point in points), (points, factors))
            return "factors"
        self.assertEqual(len(shares), len(points))
        self.assertTrue(any(shares) and min(shares) >= 0)
        for column in zip(*points):
            self.assertEqual(weighed(shares, column), 0, (points, shares))
        return "shares"

    def test_small_ones(self):
        for points, kind in [([[1]], "factors"), ([[-1]], "factors"), ([[0]], "shares"), ([[1], [-1]], "shares"),
                             ([[1], [2]], "factors"), ([[3], [-2], [5]], "shares"), ([[1, 0], [0, 1]], "factors"),
                             ([[1, 0], [-1, 0]], "shares"), ([[1, 0], [-1, 1]], "factors"), ([[1, 0], [-1, 1], [0, -1]], "shares"),
                             ([[1, 1], [1, -1], [-1, 5]], "factors"), ([[0, 0], [1, 1]], "shares"), ([[1, 0], [1, 0]], "factors")]:
            self.assertEqual(self.seen(points), kind, points)

    def test_drawn_ones(self):
        chance = random.Random(72)
        kinds = {"factors": 0, "shares": 0}
        for _ in range(1500):
            size, many = chance.randrange(1, 8), chance.randrange(1, 12)
            reach = chance.choice([1, 1, 2, 5, 40])
            points = [[chance.randrange(-reach, reach + 1) for _ in range(size)] for _ in range(many)]
            if chance.random() < 0.4:
                # All on one side of some plane, or on it.
                plane = [chance.randrange(-3, 4) for _ in range(size)]
                points = [[-number for number in point] if weighed(plane, point) < 0 else point for point in points]
            kinds[self.seen(points)] += 1
        self.assertGreater(min(kinds.values()), 200)

    def test_forty_points(self):
        chance = random.Random(73)
        for reach in [1, 2, 9, 39]:
            for _ in range(10):
                points = [[chance.randrange(-reach, reach + 1) for _ in range(8)] for _ in range(39)]
                self.seen(points)
                self.seen([[number if sum(point) >= 0 else -number for number in point] for point in points])


class Spans(unittest.TestCase):

    def test_what_is_made(self):
        chance = random.Random(74)
        made = 0
        for _ in range(400):
            size, many = chance.randrange(1, 6), chance.randrange(0, 6)
            rows = [[chance.randrange(-3, 4) for _ in range(size)] for _ in range(many)]
            row = [chance.randrange(-3, 4) for _ in range(size)]
            if chance.random() < 0.5:
                row = [sum(column) for column in zip(*rows)] if rows else [0] * size
            times, rest, factors = Span(rows).parted_off(row)
            self.assertGreater(times, 0)
            self.assertEqual(len(factors), many)
            for at in range(size):
                self.assertEqual(times * row[at] - rest[at], sum(factor * own[at] for factor, own in zip(factors, rows)))
            made += not any(rest)
        self.assertGreater(made, 150)

    def test_no_rest_where_it_can_be(self):
        for rows, row in [([[2, 0], [0, 3]], [1, 1]), ([[2, 4], [1, 2], [0, 5]], [3, 7]), ([[1, 1]], [5, 5]), ([], [0, 0]),
                          ([[0, 0], [0, 2]], [0, 7]), ([[1, 2, 3], [4, 5, 6], [7, 8, 9]], [3, 3, 3])]:
            self.assertFalse(any(Span(rows).parted_off(row)[1]))
        for rows, row in [([[2, 0]], [1, 1]), ([], [1]), ([[1, 2, 3], [4, 5, 6], [7, 8, 9]], [1, 0, 0])]:
            self.assertTrue(any(Span(rows).parted_off(row)[1]))


if __name__ == "__main__":
    unittest.main()
