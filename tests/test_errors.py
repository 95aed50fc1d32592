import unittest

from dyeweb.errors import GoesRound, NoDyeing, NoNote, NoSetting, NoTie, NoWeb, WebError

KINDS = [NoWeb, NoTie, NoDyeing, NoSetting, GoesRound, NoNote]


class TestErrors(unittest.TestCase):
    def test_web_error_is_a_value_error(self):
        self.assertEqual(WebError.__bases__, (ValueError,))

    def test_each_kind_stands_straight_under_web_error(self):
        for kind in KINDS:
            self.assertEqual(kind.__bases__, (WebError,), kind)

    def test_no_kind_is_another_kind(self):
        for kind in KINDS:
            self.assertEqual([other for other in KINDS if issubclass(kind, other)], [kind])
            self.assertFalse(issubclass(WebError, kind))

    def test_each_kind_has_its_own_name(self):
        self.assertEqual(
            [kind.__name__ for kind in KINDS],
            ["NoWeb", "NoTie", "NoDyeing", "NoSetting", "GoesRound", "NoNote"],
        )

    def test_each_kind_is_caught_as_any_refusal(self):
        for kind in KINDS:
            for caught in (kind, WebError, ValueError):
                with self.assertRaises(caught):
                    raise kind("some words")


if __name__ == "__main__":
    unittest.main()
