import copy
import time
import unittest

from samples import MILL, MILL_TEXT, changed
from tokenfold.errors import (NetError, NoBack, NoFiring, NoLead, NoNet, NoRun, NoText, NoTitle, Stuck, Taken)
from tokenfold.texts import read_net
from tokenfold.workshop import Workshop

TEXT = ["-- two states", "place on 1", "place off 0", "", "fire turn : on -> off", "fire back : off -> on"]
NET = read_net(TEXT)
# The same under other names, with one place more.
LAMP = ["place dark 0", "place light 0", "place count 3", "fire press : light -> dark + count", "fire back : dark -> light"]
LAMP_NAMES = {"on": "light", "off": "dark"}
NO_TITLES = ["", "A", "aB", "a1", "a b", "abcdefghi", "a_", " a", None, True, 0, 7, (), ("a",), [], ["a"], {}]


def refusal(ask):
    """The class of what is refused, and its fields."""
    try:
        ask()
    except NetError as error:
        return (type(error), *vars(error).values())
    return None


def shown(shop):
    """All that the workshop tells."""
    titles = shop.titles()
    return (shop.text(), shop.net(), titles, shop.log(), [(shop.heap(title), shop.trail(title)) for title in titles])


def begun():
    """A workshop with two runs, one of which has fired."""
    shop = Workshop(TEXT)
    shop.start("ann")
    shop.start("bob")
    shop.fire("bob", "turn")
    return shop


class Deeds(unittest.TestCase):

    def refused(self, shop, ask, *told):
        """Sees that it is refused so, and that nothing is changed by it."""
        ahead = shown(shop)
        self.assertEqual(refusal(ask), told)
        self.assertEqual(shown(shop), ahead)

    def test_made_of_a_text(self):
        shop = Workshop(text=TEXT)
        self.assertEqual(shown(shop), (TEXT, NET, [], [], []))
        self.assertEqual(Workshop(MILL_TEXT).net(), MILL)

    def test_no_text_no_net(self):
        for ask in [Workshop, lambda text: Workshop(TEXT).edit(text), lambda text: begun().edit(text, names={})]:
            self.assertEqual(refusal(lambda: ask(["place a 1", "fire t : a b -> 0"])), (NoText, 2, 12))
            self.assertEqual(refusal(lambda: ask([])), (NoText, 1, 1))
            self.assertEqual(refusal(lambda: ask(["place a 1", "place a 1"])), (NoNet, ("place", 1)))
            self.assertEqual(refusal(lambda: ask(["place a 1", "fire t : b -> 0"])), (NoNet, ("part", 0, 0)))

    def test_start(self):
        shop = Workshop(TEXT)
        self.assertIsNone(shop.start(title="ann"))
        self.assertIsNone(shop.start("place"))
        self.assertIsNone(shop.start("abcdefgh"))
        self.assertEqual(shop.titles(), ["abcdefgh", "ann", "place"])
        self.assertEqual(shop.heap("ann"), (1, 0))
        self.assertEqual(shop.trail("ann"), [])
        self.assertEqual(shop.log(), [("start", "ann"), ("start", "place"), ("start", "abcdefgh")])

    def test_no_title(self):
        shop = begun()
        for title in NO_TITLES:
            self.refused(shop, lambda: shop.start(title), NoTitle, title)
        self.refused(shop, lambda: shop.start("ann"), Taken, "ann")

    def test_fire(self):
        shop = begun()
        self.assertIsNone(shop.fire(title="ann", firing="turn"))
        self.assertIsNone(shop.fire("ann", "back"))
        self.assertEqual(shop.heap(title="ann"), (1, 0))
        self.assertEqual(shop.heap("bob"), (0, 1))
        self.assertEqual(shop.trail(title="ann"), ["turn", "back"])
        self.assertEqual(shop.log()[-2:], [("fire", "ann", "turn"), ("fire", "ann", "back")])

    def test_fire_refused(self):
        shop = begun()
        for title in ["x", "Ann", "", None, 0, True, ["ann"], ("ann",), {}]:
            self.refused(shop, lambda: shop.fire(title, "x"), NoRun, title)
            self.refused(shop, lambda: shop.heap(title), NoRun, title)
            self.refused(shop, lambda: shop.trail(title), NoRun, title)
            self.refused(shop, lambda: shop.stop(title), NoRun, title)
        for name in ["x", "", "on", None, True, ["turn"]]:
            self.refused(shop, lambda: shop.fire("ann", name), NoFiring, name)
        self.refused(shop, lambda: shop.fire("bob", "turn"), Stuck, 0, "on")
        self.refused(shop, lambda: shop.fire("ann", "back"), Stuck, 0, "off")

    def test_edit(self):
        shop = begun()
        self.assertIsNone(shop.edit(text=LAMP, names=LAMP_NAMES))
        self.assertEqual(shop.text(), LAMP)
        self.assertEqual(shop.net(), read_net(LAMP))
        self.assertEqual(shop.heap("ann"), (0, 1, 3))
        self.assertEqual(shop.heap("bob"), (1, 0, 3))
        self.assertEqual(shop.log()[-1], ("edit", 5))
        shop.fire("ann", "press")
        self.assertEqual(shop.heap("ann"), (1, 0, 4))
        # Rows that are passed over count, too.
        shop.edit(["", "-- on and off", *LAMP, "  "])
        self.assertEqual(shop.log()[-1], ("edit", 8))
        self.assertEqual(shop.heap("ann"), (1, 0, 4))

    def test_edit_without_names(self):
        shop = begun()
        shop.edit(["place off 4", "place on 4", "place new 2", "fire x : 0 -> 0"])
        self.assertEqual((shop.heap("ann"), shop.heap("bob")), ((0, 1, 2), (1, 0, 2)))
        shop.start("cat")
        self.assertEqual(shop.heap("cat"), (4, 4, 2))

    def test_edit_refused(self):
        shop = begun()
        self.refused(shop, lambda: shop.edit(["place on 1", "fire t : x -> 0"]), NoNet, ("part", 0, 0))
        self.refused(shop, lambda: shop.edit(["place on 1", "fires"]), NoText, 2, 1)
        self.refused(shop, lambda: shop.edit(["place on 1"]), NoLead, "bob", "off")
        self.refused(shop, lambda: shop.edit(["place off 1"]), NoLead, "ann", "on")
        self.refused(shop, lambda: shop.edit(LAMP), NoLead, "ann", "on")
        self.refused(shop, lambda: shop.edit(LAMP, names={"on": "light"}), NoLead, "bob", "off")
        # By titles sorted, not by when they began.
        shop.start("aaa")
        self.refused(shop, lambda: shop.edit(LAMP), NoLead, "aaa", "on")
        # Runs that are ended aren't led.
        for title in ["aaa", "ann", "bob"]:
            shop.stop(title)
        self.assertIsNone(shop.edit(LAMP))

    def test_the_names_as_they_were_then(self):
        shop = begun()
        shop.fire("ann", "turn")
        shop.edit(LAMP, names=LAMP_NAMES)
        shop.fire("ann", "back")
        shop.fire("ann", "press")
        self.assertEqual(shop.trail("ann"), ["turn", "back", "press"])
        self.refused(shop, lambda: shop.fire("ann", "turn"), NoFiring, "turn")

    def test_stop(self):
        shop = begun()
        self.assertIsNone(shop.stop(title="bob"))
        self.assertEqual(shop.titles(), ["ann"])
        self.refused(shop, lambda: shop.heap("bob"), NoRun, "bob")
        self.refused(shop, lambda: shop.stop("bob"), NoRun, "bob")
        self.assertEqual(shop.log()[-1], ("stop", "bob"))
        # Its title may be begun anew, and then stands at the start, with nothing fired.
        shop.start("bob")
        self.assertEqual((shop.heap("bob"), shop.trail("bob")), ((1, 0), []))

    def test_log(self):
        shop = begun()
        shop.edit(LAMP, names=LAMP_NAMES)
        shop.stop("ann")
        self.assertEqual(shop.log(), [("start", "ann"), ("start", "bob"), ("fire", "bob", "turn"), ("edit", 5), ("stop", "ann")])


class Back(unittest.TestCase):

    def test_till_the_beginning(self):
        shop = Workshop(TEXT)
        shops = [shown(shop)]
        for deed in [lambda: shop.start("bob"), lambda: shop.fire("bob", "turn"), lambda: shop.start("ann"),
                     lambda: shop.edit(LAMP, names=LAMP_NAMES), lambda: shop.fire("bob", "back"), lambda: shop.stop("bob"),
                     lambda: shop.start("bob"), lambda: shop.edit(TEXT, names={"light": "on", "dark": "off", "count": "off"}),
                     lambda: shop.fire("bob", "turn") if shop.heap("bob")[0] else shop.fire("bob", "back")]:
            deed()
            shops.append(shown(shop))
        while len(shops) > 1:
            self.assertEqual(shown(shop), shops.pop())
            self.assertIsNone(shop.back())
        self.assertEqual(shown(shop), shops[0])
        for _ in range(2):
            self.assertEqual(refusal(shop.back), (NoBack,))
            self.assertEqual(shown(shop), shops[0])

    def test_what_was_refused_is_no_deed(self):
        shop = begun()
        for ask in [lambda: shop.fire("bob", "turn"), lambda: shop.edit([]), lambda: shop.start("ann"), lambda: shop.stop("x")]:
            self.assertIsNotNone(refusal(ask))
        shop.back()
        self.assertEqual(shop.heap("bob"), (1, 0))
        self.assertEqual(shop.trail("bob"), [])

    def test_other_deeds_behind_it(self):
        shop = begun()
        shop.back()
        shop.fire("ann", "turn")
        self.assertEqual(shop.log(), [("start", "ann"), ("start", "bob"), ("fire", "ann", "turn")])
        self.assertEqual((shop.heap("ann"), shop.heap("bob")), ((0, 1), (1, 0)))


class Own(unittest.TestCase):

    def test_two_workshops(self):
        one, other = Workshop(TEXT), Workshop(TEXT)
        kept = shown(other)
        one.start("ann")
        one.fire("ann", "turn")
        one.edit(LAMP, names=LAMP_NAMES)
        self.assertEqual(shown(other), kept)
        other.start("ann")
        self.assertEqual(one.heap("ann"), (1, 0, 3))
        self.assertEqual(other.heap("ann"), (1, 0))

    def test_told_lists_are_the_askers_own(self):
        shop = begun()
        kept = copy.deepcopy(shown(shop))
        for ask in [shop.text, shop.titles, shop.log, lambda: shop.trail("bob")]:
            changed(ask())
            self.assertEqual(shown(shop), kept)
            self.assertIsNot(ask(), ask())
        shop.text()[1] = "place x 1"
        self.assertEqual(shown(shop), kept)

    def test_what_is_handed_in(self):
        text, other, names = list(TEXT), list(LAMP), dict(LAMP_NAMES)
        shop = Workshop(text)
        shop.start("ann")
        text.clear()
        self.assertEqual(shop.text(), TEXT)
        shop.edit(other, names=names)
        self.assertEqual((other, names), (LAMP, LAMP_NAMES))
        other.append("fire x")
        names.clear()
        self.assertEqual(shop.text(), LAMP)
        shop.back()
        self.assertEqual(shop.text(), TEXT)

    def test_at_once(self):
        shop = Workshop(MILL_TEXT)
        begin = time.perf_counter()
        for k in range(200):
            title = "ab"[k % 2] * (k % 8 + 1)
            if title not in shop.titles():
                shop.start(title)
            shop.fire(title, "rain")
        self.assertLess(time.perf_counter() - begin, 0.4)


if __name__ == "__main__":
    unittest.main()
