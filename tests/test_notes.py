import re
import unittest
from itertools import combinations, product

from dyeweb.errors import NoNote, NoWeb
from dyeweb.notes import read, shown

from sample_webs import GREAT_WEBS, NO_WEBS, THIRTEEN_TIES, webs_up_to

WEBS = webs_up_to(4) + [(points, []) for points in range(8)] + GREAT_WEBS
SIGNS = [chr(code) for code in range(32, 127) if chr(code) != "%"] + ["\n", "\r"]


def note_by_hand(points, ties):
    text = f"{points}:"
    for a, b in ties:
        text += f" {a}-{b}"
    return text


NOTES = {note_by_hand(points, ties): (points, ties) for points, ties in webs_up_to(5) + WEBS}


def web_written(text):
    """The web that the text writes, or None."""
    form = re.fullmatch(r"([0-7]):((?: [0-7]-[0-7])*)", text)
    if form is None:
        return None
    points = int(form[1])
    ties = [(int(a), int(b)) for a, b in re.findall(r" ([0-7])-([0-7])", form[2])]
    rising = [pair for pair in combinations(range(points), 2) if pair in ties]
    return (points, ties) if rising == ties and len(ties) <= 12 else None


class NoteCase(unittest.TestCase):
    def refuses(self, text):
        with self.assertRaises(NoNote, msg=repr(text)) as caught:
            read(text)
        self.assertIs(type(caught.exception), NoNote)

    def asks(self, text):
        wanted = web_written(text)
        if wanted is None:
            self.refuses(text)
            return
        told = read(text)
        self.assertEqual(told, wanted, repr(text))
        self.assertEqual(shown(*told), text)


class TestShown(NoteCase):
    def test_plain_webs(self):
        self.assertEqual(shown(0, []), "0:")
        self.assertEqual(shown(7, []), "7:")
        self.assertEqual(shown(2, [(0, 1)]), "2: 0-1")
        self.assertEqual(shown(4, [(0, 1), (0, 2), (1, 3)]), "4: 0-1 0-2 1-3")

    def test_twelve_ties(self):
        self.assertEqual(
            shown(7, THIRTEEN_TIES[1:]), "7: 0-2 0-3 0-4 0-5 0-6 1-2 1-3 1-4 1-5 1-6 2-3 2-4",
        )

    def test_many_webs(self):
        for points, ties in WEBS:
            kept = list(ties)
            told = shown(points, ties)
            self.assertIs(type(told), str)
            self.assertEqual(told, note_by_hand(points, ties))
            self.assertEqual(ties, kept)

    def test_refuses_what_is_no_web(self):
        for points, ties in NO_WEBS:
            kept = list(ties)
            with self.assertRaises(NoWeb, msg=(points, ties)) as caught:
                shown(points, ties)
            self.assertIs(type(caught.exception), NoWeb)
            self.assertEqual(ties, kept)


class TestRead(NoteCase):
    def test_plain_webs(self):
        self.assertEqual(read("0:"), (0, []))
        self.assertEqual(read("7:"), (7, []))
        self.assertEqual(read("4: 0-1 0-2 1-3"), (4, [(0, 1), (0, 2), (1, 3)]))
        self.assertEqual(read("7: 0-2 0-3 0-4 0-5 0-6 1-2 1-3 1-4 1-5 1-6 2-3 2-4"), (7, THIRTEEN_TIES[1:]))

    def test_many_webs(self):
        for text, web in NOTES.items():
            self.assertEqual(read(text), web)
            self.assertEqual(shown(*web), text)

    def test_the_kinds(self):
        for text in NOTES:
            told = read(text)
            self.assertIs(type(told), tuple)
            self.assertEqual([type(part) for part in told], [int, list])
            for tie in told[1]:
                self.assertIs(type(tie), tuple)
                self.assertEqual([type(end) for end in tie], [int, int])

    def test_a_text_read_again(self):
        for text, (points, ties) in NOTES.items():
            first = read(text)
            first[1].append((5, 6))
            first[1][0] = "changed"
            second = read(text)
            self.assertEqual(second, (points, ties))
            self.assertIsNot(second[1], first[1])

    def test_all_short_texts(self):
        for length in range(4):
            for signs in product("0123789:- \n", repeat=length):
                self.asks("".join(signs))
        for points, blank, first, dash, second in product("0123789", " 0:-", "0123789-", "-: 1", "0123789 "):
            self.asks(points + ":" + blank + first + dash + second)

    def test_the_empty_text(self):
        self.refuses("")

    def test_one_sign_less(self):
        for text in NOTES:
            for place in range(len(text)):
                self.refuses(text[:place] + text[place + 1:])

    def test_one_sign_more(self):
        for text in ("0:", "7:", "2: 0-1", "4: 0-1 0-2 1-3", note_by_hand(*GREAT_WEBS[0])):
            for place in range(len(text) + 1):
                for sign in SIGNS:
                    self.refuses(text[:place] + sign + text[place:])

    def test_another_sign(self):
        for text in ("0:", "7:", "2: 0-1", "4: 0-1 0-2 1-3", note_by_hand(*GREAT_WEBS[0])):
            for place in range(len(text)):
                for sign in SIGNS:
                    self.asks(text[:place] + sign + text[place + 1:])

    def test_two_signs_in_each_others_place(self):
        for text in NOTES:
            for place in range(len(text) - 1):
                self.asks(text[:place] + text[place + 1] + text[place] + text[place + 2:])

    def test_blanks(self):
        for text in (" 2: 0-1", "2: 0-1 ", " 2: 0-1 ", "2:  0-1", "2 : 0-1", "2: 0 -1", "2: 0- 1", "2:0-1",
                     "3: 0-1  1-2", "3: 0-11-2", "3: 0-1 1-2  ", " 0:", "0: ", "0 :", " ", "  "):
            self.refuses(text)

    def test_line_ends(self):
        for text in ("\n", "2: 0-1\n", "\n2: 0-1", "2:\n0-1", "2: 0-1\r\n", "2: 0-1\r", "3: 0-1\n1-2", "0:\n", "0\n:"):
            self.refuses(text)

    def test_figures_eight_and_nine(self):
        for text in ("8:", "9:", "8: 0-1", "9: 0-1", "7: 0-8", "7: 0-9", "7: 8-9", "8: 0-7", "9: 7-8", "7: 6-7"):
            self.refuses(text)

    def test_numbers_of_more_figures(self):
        for text in ("10:", "00:", "02: 0-1", "2: 00-1", "2: 0-01", "3: 0-12", "-1:", "+2: 0-1", "2: -0-1", "2: 0--1"):
            self.refuses(text)

    def test_other_signs(self):
        for text in (":", "0", "2", "x:", "2; 0-1", "2:_0-1", "2: 0_1", "2: 0+1", "2: 0,1", "(2, [(0, 1)])", "2: 0-a",
                     "2: a-1", "a: 0-1", ": 0-1", "2:: 0-1", "2:: 0-1:"):
            self.refuses(text)

    def test_ties_that_are_no_webs(self):
        for text in ("0: 0-1", "1: 0-0", "1: 0-1", "2: 1-0", "2: 0-1 0-1", "3: 0-2 0-1", "3: 1-2 0-1", "3: 0-3",
                     "3: 1-1", "3: 0-1 2-1", "7: 0-7"):
            self.refuses(text)
        for points, ties in NO_WEBS:
            self.refuses(note_by_hand(points, ties))

    def test_more_than_twelve_ties(self):
        self.assertEqual(read(note_by_hand(7, THIRTEEN_TIES[:12])), (7, THIRTEEN_TIES[:12]))
        every = list(combinations(range(7), 2))
        for many in range(13, len(every) + 1):
            self.refuses(note_by_hand(7, every[:many]))

    def test_two_hundred_signs(self):
        for sign in SIGNS:
            self.refuses(sign * 200)
        for text in ("2: 0-1", "7:", note_by_hand(*GREAT_WEBS[0])):
            self.refuses(text + " " * (200 - len(text)))
            self.refuses(" " * (200 - len(text)) + text)
            self.refuses((text * 200)[:200])
        self.refuses("7:" + " 0-1" * 49 + " 0")
        self.refuses("2: 0-1" + " 0-1" * 48 + "  ")
        self.refuses("1" * 201)


if __name__ == "__main__":
    unittest.main()
