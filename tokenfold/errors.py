"""The refusals: each told kind is a class of its own, made of its fields, by places, or of nothing."""


class NetError(ValueError):
    """Any refusal."""


class NoBag(NetError):
    """What was handed in is no bag."""


class NoBack(NetError):
    """Nothing is there that could be taken back."""


class NoNumber(NetError):
    """What was handed in is no number of a deed that has a next one."""


class NotApart(NetError):
    """The one deed is among the causes of the next."""


class NoRow(NetError):
    """What was handed in is no row of a log."""


class NoPrices(NetError):
    """What was handed in is no prices."""


class NoCount(NetError):
    """What was handed in is no count."""


class NoLaying(NetError):
    """There is no laying, or what was handed in is none."""


class NoNet(NetError):
    """What was handed in is no net."""

    def __init__(self, wrong=None):
        self.wrong = wrong


class NoHeap(NetError):
    """What was handed in is no heap."""

    def __init__(self, wrong=None):
        self.wrong = wrong


class NoSum(NetError):
    """What was handed in is no sum, or no loop."""

    def __init__(self, wrong=None):
        self.wrong = wrong


class NoStair(NetError):
    """What was handed in is no stair."""

    def __init__(self, wrong=None):
        self.wrong = wrong


class NoTurn(NetError):
    """What was handed in is no turn that may be done."""

    def __init__(self, wrong=None):
        self.wrong = wrong


class NoTable(NetError):
    """What was handed in is no table."""

    def __init__(self, wrong=None):
        self.wrong = wrong


class NoEvents(NetError):
    """What was handed in is no configuration's events."""

    def __init__(self, wrong=None):
        self.wrong = wrong


class NotPlain(NetError):
    """The net is not plain."""

    def __init__(self, wrong=None):
        self.wrong = wrong


class NoFiring(NetError):
    """No firing has the name."""

    def __init__(self, name=None):
        self.name = name


class NoPlace(NetError):
    """No place has the name, or it may not be this one."""

    def __init__(self, place=None):
        self.place = place


class Stuck(NetError):
    """A firing of a row can't: too little is there."""

    def __init__(self, at=None, place=None):
        self.at = at
        self.place = place


class TooGreat(NetError):
    """There is more than was let."""

    def __init__(self, most=None):
        self.most = most


class NoText(NetError):
    """What was handed in is no text of a net."""

    def __init__(self, row=None, column=None):
        self.row = row
        self.column = column


class Gone(NetError):
    """A place with tokens has no place to which they come."""

    def __init__(self, place=None):
        self.place = place


class NoTitle(NetError):
    """What was handed in is no title."""

    def __init__(self, title=None):
        self.title = title


class Taken(NetError):
    """A run that is not ended has the title."""

    def __init__(self, title=None):
        self.title = title


class NoRun(NetError):
    """No run that is not ended has the title."""

    def __init__(self, title=None):
        self.title = title


class NoLead(NetError):
    """A run can't be led to the new net."""

    def __init__(self, title=None, place=None):
        self.title = title
        self.place = place
