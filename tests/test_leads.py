import copy
import random
import unittest

from samples import DOOR, MILL, NO_NETS, net_by_chance
from tokenfold.errors import Gone, NoHeap, NoNet
from tokenfold.leads import led
from tokenfold.sums import sum_wrong, worth
from tokenfold.texts import read_net

# The mill with its workers under another name, its flour in sacks, and a cat.
OTHER = read_net(["place cat 7", "place work 1", "place sack 5", "place grain 2", "fire begin : work -> 0"])
NAMES = {"idle": "work", "busy": "work", "flour": "sack"}


def refused(ask):
    try:
        ask()
    except (NoNet, NoHeap) as error:
        return (type(error), error.wrong)
    except Gone as error:
        return (Gone, error.place)
    return None


class Led(unittest.TestCase):

    def test_renamed_and_made_one(self):
        self.assertEqual(led(net=MILL, other=OTHER, heap=(3, 2, 4, 1), names=NAMES), (7, 6, 1, 3))
        self.assertEqual(led(MILL, OTHER, (0, 0, 0, 0), NAMES), (7, 0, 0, 0))

    def test_places_that_stand_for_themselves(self):
        self.assertEqual(led(DOOR, DOOR, (1, 0, 2, 5), {}), (1, 0, 2, 5))
        turned = (DOOR[0][::-1], ())
        self.assertEqual(led(DOOR, turned, (1, 0, 2, 5), {}), (5, 2, 0, 1))

    def test_turned_about(self):
        self.assertEqual(led(DOOR, DOOR, (1, 2, 3, 4), {"idle": "key", "key": "idle"}), (2, 1, 3, 4))
        self.assertEqual(led(DOOR, DOOR, (1, 2, 3, 4), {"idle": "key", "key": "room", "room": "idle"}), (3, 1, 2, 4))

    def test_put_in(self):
        more = (DOOR[0][:2] + (("new", 9),) + DOOR[0][2:], DOOR[1])
        self.assertEqual(led(DOOR, more, (1, 2, 3, 4), {}), (1, 2, 9, 3, 4))
        # Where an old place's image it is, it has not its start: also where the old one has none.
        self.assertEqual(led(DOOR, more, (1, 2, 3, 0), {"lost": "new"}), (1, 2, 0, 3, 0))
        self.assertEqual(led(DOOR, (more[0], ()), (0, 0, 0, 0), {"lost": "new"})[2], 0)

    def test_an_old_place_that_is_no_image_any_more(self):
        # idle goes to the key, so idle has its start in the other net.
        self.assertEqual(led(DOOR, DOOR, (5, 2, 0, 0), {"idle": "key"}), (1, 7, 0, 0))

    def test_left_out(self):
        less = (DOOR[0][:3], ())
        self.assertEqual(led(DOOR, less, (1, 0, 2, 0), {}), (1, 0, 2))
        self.assertEqual(refused(lambda: led(DOOR, less, (1, 0, 2, 1), {})), (Gone, "lost"))
        self.assertEqual(led(DOOR, less, (1, 0, 2, 1), {"lost": "room"}), (1, 0, 3))

    def test_gone_with_the_first(self):
        self.assertEqual(refused(lambda: led(MILL, OTHER, (3, 2, 4, 1), {})), (Gone, "idle"))
        self.assertEqual(refused(lambda: led(MILL, OTHER, (3, 0, 4, 1), {})), (Gone, "busy"))
        self.assertEqual(refused(lambda: led(MILL, OTHER, (3, 0, 0, 1), {})), (Gone, "flour"))
        self.assertEqual(refused(lambda: led(MILL, OTHER, (3, 2, 4, 1), {**NAMES, "grain": "x"})), (Gone, "grain"))
        self.assertEqual(led(MILL, OTHER, (3, 0, 0, 0), {}), (7, 1, 5, 3))

    def test_names_of_what_is_not_led(self):
        self.assertEqual(led(DOOR, DOOR, (1, 0, 2, 5), {"x": "idle", "cat": "y", "enter": "lose"}), (1, 0, 2, 5))

    def test_refused_in_order(self):
        for thing, wrong in NO_NETS:
            self.assertEqual(refused(lambda: led(thing, None, None, {})), (NoNet, wrong))
            self.assertEqual(refused(lambda: led(MILL, thing, None, {})), (NoNet, wrong))
        for heap, wrong in [(None, ("heap",)), ((1, 2, 3), ("heap",)), ((1, 2, True, 0), ("place", 2)), ((1, 2, 3, -1), ("place", 3)),
                            ([1, 2, 3, 4], ("heap",))]:
            self.assertEqual(refused(lambda: led(MILL, OTHER, heap, {})), (NoHeap, wrong))

    def test_a_sum_is_kept(self):
        chance = random.Random(90)
        kept = 0
        for _ in range(300):
            other = net_by_chance(chance, 4, 3)
            net = net_by_chance(chance, 5, 3)
            images = [chance.choice(other[0])[0] for _ in net[0]]
            names = {place: image for (place, _), image in zip(net[0], images)}
            heap = tuple([chance.randrange(5) for _ in net[0]])
            weights = {place: chance.randrange(-3, 4) for place, _ in other[0]}
            if set(images) == set(weights):
                kept += 1
                behind = led(net, other, heap, names)
                self.assertEqual(sum(weights[place] * count for (place, _), count in zip(other[0], behind)),
                                 sum(weights[image] * count for image, count in zip(images, heap)))
        self.assertGreater(kept, 30)
        both = read_net(["place a 1", "place b 1", "fire t : a -> b"])
        self.assertIsNone(sum_wrong(both, (1, 1)))
        self.assertEqual(worth(both, (1, 1), led(both, both, (3, 2), {"a": "b", "b": "a"})), 5)

    def test_what_is_handed_in_stays(self):
        names = copy.deepcopy(NAMES)
        led(MILL, OTHER, (3, 2, 4, 1), names)
        self.assertEqual(names, NAMES)


if __name__ == "__main__":
    unittest.main()
