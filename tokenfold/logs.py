"""Logs laid along a net: what fires with them, what is read alone, what fires alone, at the least cost."""

from heapq import heappop, heappush

from tokenfold.errors import NoCount, NoLaying, NoPrices, NoRow, TooGreat
from tokenfold.firing import check_heap, heap_flaw, is_over, lacking, moved, start_heap, wires_of
from tokenfold.nets import check_net, is_name, is_tuple_of, is_whole

GREATEST_PRICE = 99
GREATEST_MOST = 100000
MOVES = ("both", "log", "net")
FAR_BACK = 12


def check_asked(net, row, goal, prices):
    """Refuses what is no net, no row, no goal, no prices."""
    check_net(net)
    check_labels(row)
    if goal is not None:
        check_heap(net, goal)
    check_prices(prices)


def check_labels(row):
    """Refuses what is no list of NAMES."""
    if not isinstance(row, list) or not all([is_name(label) for label in row]):
        raise NoRow()


def check_prices(prices):
    """Refuses what is no tuple of two prices."""
    if not is_tuple_of(prices, 2) or not all([is_whole(price) and 1 <= price <= GREATEST_PRICE for price in prices]):
        raise NoPrices()


def check_count(most):
    """Refuses what is no count of pairs."""
    if not is_whole(most) or not 1 <= most <= GREATEST_MOST:
        raise NoCount()


def is_laying(thing):
    """Whether it is a laying by form."""
    if not isinstance(thing, tuple) or not all([is_tuple_of(move, 2) for move in thing]):
        return False
    return all([isinstance(word, str) and word in MOVES and isinstance(name, str) for word, name in thing])


class Board:
    """A net and a row of labels that is laid along it, up to a goal, at prices.

    A pair, of a heap and of how many labels are read, is led by moves to others.
    """

    def __init__(self, net, row, goal, prices):
        self.begin = (start_heap(net), 0)
        self.row = row
        self.goal = goal
        self.prices = prices
        self.wires = wires_of(net)
        self.labels = {firing[0]: firing[1] for firing in net[1]}
        self.labelled = {}
        for name, label in self.labels.items():
            self.labelled.setdefault(label, []).append(name)
        # Of each heap that was asked for, the heaps behind the firings that can there: many pairs may have it.
        self.known = {}

    def next_label(self, number):
        """The label that is read next; None where all are read."""
        return self.row[number] if number < len(self.row) else None

    def price_of(self, move):
        """What the move costs."""
        word, name = move
        if word == "log":
            return self.prices[0]
        return self.prices[1] if word == "net" and self.labels[name] != "" else 0

    def moves_from(self, pair):
        """All moves that can be made there, with the pairs behind: both, then net, by firings in order, then log."""
        heap, number = pair
        label = self.next_label(number)
        behind = self.behind(heap)
        read = self.labelled.get(label, []) if label is not None else []
        moves = [(("both", name), (behind[name], number + 1)) for name in read if name in behind]
        moves.extend([(("net", name), (behind[name], number)) for name in behind])
        if label is not None:
            moves.append((("log", label), (heap, number + 1)))
        return moves

    def behind(self, heap):
        """From the names of the firings that can at the heap, in order, to the heaps behind them."""
        if heap not in self.known:
            able = {name: wire for name, wire in self.wires.items() if lacking(heap, wire[0]) is None}
            self.known[heap] = {name: moved(heap, taken, given) for name, (taken, given) in able.items()}
        return self.known[heap]

    def is_end(self, pair):
        """Whether all is read there, and the goal come to."""
        heap, number = pair
        return number == len(self.row) and (self.goal is None or heap == self.goal)

    def led_by(self, pair, move):
        """The pair behind the move; None where it can't be made."""
        heap, number = pair
        word, name = move
        if word == "log":
            return (heap, number + 1) if name == self.next_label(number) else None
        if name not in self.wires or (word == "both" and self.labels[name] != self.next_label(number)):
            return None
        taken, given = self.wires[name]
        if lacking(heap, taken) is not None:
            return None
        return (moved(heap, taken, given), number + 1 if word == "both" else number)

    def wrong_move(self, laying):
        """The number of the first move that can't be made, or how many there are, where they end too early; or None."""
        pair = self.begin
        for k, move in enumerate(laying):
            pair = self.led_by(pair, move)
            if pair is None:
                return k
        return None if self.is_end(pair) else len(laying)


class Way:
    """The search for the laying of the least cost, of these the one of the fewest moves.

    Of each pair, least has the cost and the number of moves by which it is come to; near has those that are near, as
    they are gone through, each with the moves that lead from it.
    """

    def __init__(self, board, most):
        self.board = board
        self.most = most
        self.least = {board.begin: (0, 0)}
        self.near = {}
        # Of each pair to which a silent firing alone led, the pair ahead.
        self.ahead = {}
        self.best = None
        self.queue = [(0, 0, board.begin)]
        while len(self.queue) > 0:
            cost, many, pair = heappop(self.queue)
            if self.best is not None and cost > self.best[0]:
                break
            if pair not in self.near:
                self.go_on(cost, many, pair)

    def go_on(self, cost, many, pair):
        """Goes through a pair that is near, as none is refused that can't be."""
        if len(self.near) == self.most or self.is_endless(pair):
            raise TooGreat(self.most)
        if self.best is None and self.board.is_end(pair):
            self.best = (cost, many)
        steps = [(move, self.board.price_of(move), behind) for move, behind in self.board.moves_from(pair)]
        self.near[pair] = steps
        for (word, _), price, behind in steps:
            told = (cost + price, many + 1)
            if behind not in self.least or told < self.least[behind]:
                self.least[behind] = told
                self.ahead[behind] = pair if word == "net" and price == 0 else None
                heappush(self.queue, (*told, behind))

    def is_endless(self, pair):
        """Whether silent firings alone led to the pair from one whose heap it is over, as they can again and again."""
        # It needn't be seen, as pairs are counted. So it is looked for where it is seen quickly.
        other = self.ahead.get(pair)
        for _ in range(FAR_BACK):
            if other is None:
                return False
            if is_over(pair[0], other[0]):
                return True
            other = self.ahead.get(other)
        return False

    def laying(self):
        """The laying of the least cost, of these of the fewest moves, of these the least as a tuple."""
        onward = self.onward()
        pair = self.board.begin
        moves = []
        while onward[pair] is not None:
            move, pair = onward[pair]
            moves.append(move)
        return tuple(moves)

    def onward(self):
        """Of each pair that such a laying comes to the least move on, with the pair behind; None of the ends."""
        onward = {}
        for pair, steps in reversed(list(self.near.items())):
            if self.least[pair] == self.best and self.board.is_end(pair):
                onward[pair] = None
                continue
            cost, many = self.least[pair]
            ways = [(move, behind) for move, price, behind in steps
                    if behind in onward and self.least[behind] == (cost + price, many + 1)]
            if len(ways) > 0:
                onward[pair] = min(ways)
        return onward


def laying_wrong(net, row, thing, *, goal=None):
    """None where it is a laying of the row, else the first of what isn't so."""
    check_asked(net, row, goal, (1, 1))
    if not is_laying(thing):
        return ("form",)
    k = Board(net, row, goal, (1, 1)).wrong_move(thing)
    return None if k is None else ("move", k)


def cost_of(net, laying, *, prices=(1, 1)):
    """What the moves cost together, whether they can be made or not."""
    check_net(net)
    check_prices(prices)
    board = Board(net, [], None, prices)
    if not is_laying(laying) or not all([word == "log" or name in board.wires for word, name in laying]):
        raise NoLaying()
    return sum([board.price_of(move) for move in laying])


def way_of(net, row, goal, prices, most):
    """The search that has found the laying of the least cost."""
    check_asked(net, row, goal, prices)
    check_count(most)
    way = Way(Board(net, row, goal, prices), most)
    if way.best is None:
        raise NoLaying()
    return way


def laid(net, row, *, goal=None, prices=(1, 1), most=2000):
    """The least cost of a laying of the row, and the first such laying."""
    way = way_of(net, row, goal, prices, most)
    return (way.best[0], way.laying())


def paper_of(net, row, *, goal=None, prices=(1, 1), most=2000):
    """What shows that none is cheaper: all pairs that are come to for less, each with the least cost, sorted."""
    way = way_of(net, row, goal, prices, most)
    return sorted([(*pair, way.least[pair][0]) for pair in way.near if way.least[pair][0] < way.best[0]])


def laying_least(net, row, told, thing, *, goal=None, prices=(1, 1)):
    """None where it shows that none is cheaper than the told laying, else the first of what isn't so."""
    check_asked(net, row, goal, prices)
    if not is_list_of_pairs(net, row, thing):
        return ("form",)
    board = Board(net, row, goal, prices)
    if not is_tuple_of(told, 2) or not is_whole(told[0]) or not is_laying(told[1]):
        return ("laying",)
    cost, laying = told
    if board.wrong_move(laying) is not None or cost != cost_of(net, laying, prices=prices):
        return ("laying",)
    leasts = {(heap, number): least for heap, number, least in thing}
    if cost != 0 and leasts.get(board.begin) != 0:
        return ("begin",)
    for k, (pair, least) in enumerate(leasts.items()):
        if board.is_end(pair):
            return ("end", k)
        for j, (move, behind) in enumerate(board.moves_from(pair)):
            further = least + board.price_of(move)
            if further < cost and (behind not in leasts or leasts[behind] > further):
                return ("move", k, j)
    return None


def is_list_of_pairs(net, row, thing):
    """Whether it is a list of unlike pairs, each with a cost."""
    if not isinstance(thing, list) or not all([is_tuple_of(part, 3) for part in thing]):
        return False
    for heap, number, least in thing:
        if heap_flaw(net, heap) is not None or not is_whole(number) or not 0 <= number <= len(row):
            return False
        if not is_whole(least) or least < 0:
            return False
    return len({(heap, number) for heap, number, _ in thing}) == len(thing)


def laid_all(net, rows, *, prices=(1, 1), most=2000):
    """The least costs of all rows' layings, and the names of the firings that stand in none of these, in order."""
    check_net(net)
    if not isinstance(rows, list):
        raise NoRow()
    costs = []
    fired = {}
    for row in rows:
        cost, laying = laid(net, row, prices=prices, most=most)
        costs.append(cost)
        for word, name in laying:
            if word != "log":
                fired[name] = True
    return (costs, [firing[0] for firing in net[1] if firing[0] not in fired])


def fits(net, row, *, goal=None, most=2000):
    """Whether the row has a laying that costs nothing."""
    try:
        return laid(net, row, goal=goal, most=most)[0] == 0
    except NoLaying:
        return False
