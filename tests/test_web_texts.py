"""[9], A1: the texts of webs, and the index of InvalidText."""

import random
import unittest

from leaveorder.errors import InvalidText
from leaveorder.webs import web_text, web_told
from tests import oracle
from tests.at_hand import BIG, ODD_VALUES, all_webs, bare_web, full_web, large_webs, small_webs

SIGNS = "abcdefl:,; Am1\n"


def all_beginnings():
    """All that the texts of webs of up to 4 places begin with."""
    found = {""}
    for count in (1, 2, 3, 4):
        for web in all_webs(count):
            told = oracle.text(web)
            found |= {told[:size] for size in range(len(told) + 1)}
    return found


def index_of(text):
    """The index of the InvalidText that web_told raises; None if it raises none."""
    try:
        web_told(text)
    except InvalidText as error:
        return error.index
    return None


class WebTextTest(unittest.TestCase):

    def test_text_and_back(self):
        for web in small_webs() + large_webs():
            self.assertEqual(web_text(web), oracle.text(web))
            self.assertEqual(web_told(web_text(web)), web)

    def test_edges(self):
        self.assertEqual([web_text(bare_web(1)), web_text(bare_web(12)), web_text((12, ((10, 11),)))],
                         ["a:", "l:", "l:kl"])
        self.assertEqual(web_told("l:kl"), (12, ((10, 11),)))
        self.assertEqual(web_told(web_text(full_web(12))), full_web(12))
        self.assertEqual(len(web_text(full_web(12))), 2 + 66 * 2 + 65)

    def test_values_that_are_no_strings(self):
        for value in [*ODD_VALUES, b"a:", (1, ()), ["a:"], ("a:",), BIG]:
            if not isinstance(value, str):
                self.assertEqual(index_of(value), 0, value)
                self.assertIs(type(index_of(value)), int)

    def test_named_texts(self):
        told = {
            "": 0, "a": 1, "l": 1, "m": 0, "m:": 0, "A:": 0, ":": 0, "1:": 0, " a:": 0, "a:a": 2, "a:,": 2, "a:ab": 2,
            "a: ": 2, "a;": 1, "aa:": 1, "b:ba": 2, "b:a": 3, "b:aa": 3, "b:ac": 3, "b:ab,": 4, "b:ab,a": 4, "b:,ab": 2,
            "c:ab,ab": 6, "c:bc,": 4, "c:ab,": 5, "c:ab,a": 6, "c:ab,b": 6, "c:ab,c": 5, "c:ac,ab": 5, "c:ac,b": 6,
            "c:abac": 4, "c:ab;bc": 4, "c:ab,,bc": 5, "c:ab, bc": 5, "c:AB": 2, "d:cd,": 4, "d:cb": 3, "d:d": 2,
            "c:ab,bc\n": 7, "c:\n": 2, "c:ab,bc,": 7, "l:kl,": 4, "l:al,a": 5, "l:al,b": 6, "l:am": 3, "l:l": 2,
            "a\u00e9": 1, "\u00e4:": 0, "a:" + "x" * 19998: 2, "x" * 20000: 0, "c:ab" + ",ab" * 6000: 6,
        }
        for text, index in told.items():
            self.assertEqual(index_of(text), index, text[:20])

    def test_each_short_text(self):
        beginnings = all_beginnings()
        texts = {oracle.text(web) for count in (1, 2, 3, 4) for web in all_webs(count)}
        wrong = {""}
        for text in texts:
            for at in range(len(text) + 1):
                wrong |= {text[:at], text[:at] + text[at + 1:], text[:at] + text[at:at + 2][::-1] + text[at + 2:]}
                for sign in SIGNS:
                    wrong |= {text[:at] + sign + text[at:], text[:at] + sign + text[at + 1:]}
        for text in sorted(wrong):
            if text in texts:
                self.assertEqual(web_text(web_told(text)), text)
            elif text[:1] not in ("e", "f", "l"):
                best = max(size for size in range(len(text) + 1) if text[:size] in beginnings)
                self.assertEqual(index_of(text), best, text)

    def test_each_beginning_of_a_long_text(self):
        for web in (full_web(12), *large_webs()[::9]):
            text = web_text(web)
            for size in range(len(text)):
                cut = text[:size]
                whole = size >= 2 and (size == 2 or size % 3 == 1)
                self.assertEqual(index_of(cut), None if whole else size, cut)

    def test_signs_put_into_a_long_text(self):
        chance = random.Random(7)
        for web in large_webs():
            text = web_text(web)
            at = chance.randrange(len(text) + 1)
            for sign in ("!", "A", "z", ";"):
                self.assertEqual(index_of(text[:at] + sign + text[at:]), at)

    def test_what_is_not_refused_is_the_text_of_what_is_told(self):
        chance = random.Random(8)
        for _ in range(4000):
            text = chance.choice("abcd") + ":" + "".join(chance.choice("abcd,") for _ in range(chance.randrange(6)))
            if index_of(text) is None:
                self.assertEqual(web_text(web_told(text)), text)
            else:
                self.assertLessEqual(index_of(text), len(text))


if __name__ == "__main__":
    unittest.main()
