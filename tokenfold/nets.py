"""What is a net."""

from tokenfold.errors import NoNet, NoPlace

LETTERS = "abcdefghijklmnopqrstuvwxyz"
FIGURES = "0123456789"
WORD_SIGNS = "abcdefghijklmnopqrstuvwxyz0123456789"
KEPT_WORDS = ("place", "fire", "as")
LONGEST_NAME = 8
GREATEST = 999999999
MOST_PLACES = 40
MOST_FIRINGS = 60


def is_whole(thing):
    """Whether it is a whole number, which truths are not."""
    return isinstance(thing, int) and not isinstance(thing, bool)


def is_name(thing):
    """Whether it is a NAME."""
    if not isinstance(thing, str) or len(thing) < 1 or len(thing) > LONGEST_NAME or thing in KEPT_WORDS:
        return False
    return thing[0] in LETTERS and all([sign in WORD_SIGNS for sign in thing])


def is_tuple_of(thing, many):
    """Whether it is a tuple of so many things."""
    return isinstance(thing, tuple) and len(thing) == many


def is_counted(thing, least):
    """Whether it is a tuple of a NAME and a count from the least on."""
    return is_tuple_of(thing, 2) and is_name(thing[0]) and is_whole(thing[1]) and least <= thing[1] <= GREATEST


def is_parts(thing):
    """Whether it is, by form, what a firing takes, or gives."""
    return isinstance(thing, tuple) and all([is_counted(part, 1) for part in thing])


def is_firing(thing):
    """Whether it is a firing by form, whatever the names of its places."""
    if not is_tuple_of(thing, 4):
        return False
    name, label, takes, gives = thing
    return is_name(name) and (label == "" or is_name(label)) and is_parts(takes) and is_parts(gives)


def numbers_of(named):
    """From the names of places, or of firings, to their numbers."""
    return {thing[0]: k for k, thing in enumerate(named)}


def net_wrong(thing):
    """None where it is a net, else the first of what isn't so."""
    if not is_tuple_of(thing, 2) or not isinstance(thing[0], tuple) or not isinstance(thing[1], tuple):
        return ("net",)
    places, firings = thing
    if len(places) == 0:
        return ("net",)
    wrong = places_wrong(places)
    if wrong is None:
        wrong = firings_wrong(places, firings)
    if wrong is None and (len(places) > MOST_PLACES or len(firings) > MOST_FIRINGS):
        wrong = ("great",)
    return wrong


def places_wrong(places):
    """None where each is a place with a name of its own, else the first that isn't."""
    ahead = {}
    for k, place in enumerate(places):
        if not is_counted(place, 0) or place[0] in ahead:
            return ("place", k)
        ahead[place[0]] = True
    return None


def firings_wrong(places, firings):
    """None where each is a firing of these places with a name of its own, else the first that isn't so."""
    numbers = numbers_of(places)
    ahead = {}
    for k, firing in enumerate(firings):
        if not is_firing(firing) or firing[0] in ahead:
            return ("firing", k)
        ahead[firing[0]] = True
        j = bad_part(numbers, firing)
        if j is not None:
            return ("part", k, j)
    return None


def bad_part(numbers, firing):
    """The number of the first part of no place, or out of the places' order; None where there is none."""
    j = 0
    for parts in (firing[2], firing[3]):
        last = -1
        for name, _ in parts:
            if name not in numbers or numbers[name] <= last:
                return j
            last = numbers[name]
            j += 1
    return None


def check_net(net):
    """Refuses what is no net."""
    wrong = net_wrong(net)
    if wrong is not None:
        raise NoNet(wrong)


def check_places(net, names):
    """Refuses the first name that no place of the net has."""
    numbers = numbers_of(net[0])
    for name in names:
        if not isinstance(name, str) or name not in numbers:
            raise NoPlace(name)
