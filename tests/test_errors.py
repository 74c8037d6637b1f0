"""The refusals' classes and their fields (the interface, errors)."""

import unittest

from stationrow.errors import NoRoom, NoRow, NoStand, NoTask, Ring, RowError, Torn, TooLong, Twice

CLASSES = (NoRow, Twice, NoTask, Ring, Torn, NoStand, TooLong, NoRoom)

MADE = (
    (NoRow, {"row": 3}),
    (NoRow, {"row": 0}),
    (Twice, {"row": 12}),
    (NoTask, {"row": 1}),
    (Ring, {"ring": ("a", "b", "c")}),
    (Torn, {"one": "a", "other": "b"}),
    (NoStand, {"tasks": ("a", "b")}),
    (TooLong, {"tasks": ("a",), "length": 10 ** 60}),
    (NoRoom, {}),
)


class Classes(unittest.TestCase):
    def test_any_refusal_is_a_value_error(self):
        self.assertTrue(issubclass(RowError, ValueError))

    def test_each_is_under_row_error(self):
        for one in CLASSES:
            with self.subTest(one=one):
                self.assertTrue(issubclass(one, RowError))
                self.assertTrue(issubclass(one, ValueError))
                self.assertFalse(issubclass(RowError, one))

    def test_none_is_under_another(self):
        for one in CLASSES:
            for other in CLASSES:
                if one is not other:
                    with self.subTest(one=one, other=other):
                        self.assertFalse(issubclass(one, other))


class Fields(unittest.TestCase):
    def test_fields_are_set_when_made(self):
        for made, fields in MADE:
            with self.subTest(made=made):
                self.assertEqual(vars(made(*fields.values())), fields)

    def test_fields_are_there_when_caught(self):
        for made, fields in MADE:
            with self.subTest(made=made):
                with self.assertRaises(RowError) as caught:
                    raise made(*fields.values())
                self.assertIs(type(caught.exception), made)
                for name, value in fields.items():
                    self.assertEqual(getattr(caught.exception, name), value)

    def test_each_object_has_its_own(self):
        first = TooLong(("a",), 4)
        second = TooLong(("b", "c"), 5)
        self.assertEqual((first.tasks, first.length), (("a",), 4))
        self.assertEqual((second.tasks, second.length), (("b", "c"), 5))


if __name__ == "__main__":
    unittest.main()
