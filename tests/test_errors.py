import unittest

from tokenfold import errors

FIELDS = {
    "NoBag": (), "NoBack": (), "NoNumber": (), "NotApart": (), "NoRow": (), "NoPrices": (), "NoCount": (),
    "NoLaying": (), "NoNet": ("wrong",), "NoHeap": ("wrong",), "NoSum": ("wrong",), "NoStair": ("wrong",),
    "NoTurn": ("wrong",), "NoTable": ("wrong",), "NoEvents": ("wrong",), "NotPlain": ("wrong",),
    "NoFiring": ("name",), "NoPlace": ("place",), "Stuck": ("at", "place"), "TooGreat": ("most",),
    "NoText": ("row", "column"), "Gone": ("place",), "NoTitle": ("title",), "Taken": ("title",),
    "NoRun": ("title",), "NoLead": ("title", "place"),
}


class Errors(unittest.TestCase):

    def test_net_error_is_a_value_error(self):
        self.assertEqual(errors.NetError.__bases__, (ValueError,))
        self.assertIsInstance(errors.NetError(), ValueError)

    def test_each_is_straight_under_net_error(self):
        for name in FIELDS:
            with self.subTest(name):
                self.assertEqual(getattr(errors, name).__bases__, (errors.NetError,))

    def test_made_of_fields_by_places(self):
        for name, fields in FIELDS.items():
            with self.subTest(name):
                worths = [("worth", k) for k in range(len(fields))]
                made = getattr(errors, name)(*worths)
                self.assertEqual(vars(made), dict(zip(fields, worths)))

    def test_made_of_nothing(self):
        for name, fields in FIELDS.items():
            with self.subTest(name):
                made = getattr(errors, name)()
                self.assertEqual(sorted(vars(made)), sorted(fields))

    def test_no_other_class(self):
        told = {name for name, thing in vars(errors).items() if isinstance(thing, type)}
        self.assertEqual(told, set(FIELDS) | {"NetError"})


if __name__ == "__main__":
    unittest.main()
