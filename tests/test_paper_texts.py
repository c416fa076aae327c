"""[45], [46], N1, N2: papers and their texts."""

import random
import unittest
from itertools import combinations, permutations

from leaveorder.bare_rounds import bare_rings
from leaveorder.covers import apart_paper, fewest_cover, most_apart
from leaveorder.errors import InvalidPaper, InvalidText, NotShown
from leaveorder.fillings import fewest_filling, is_filling
from leaveorder.leaving import first_hitch, first_order, is_leaving, is_order
from leaveorder.paper_texts import is_paper, paper_text, paper_told
from leaveorder.webs import web_text
from leaveorder.whole_lots import whole_lots
from tests import lot_oracle, oracle
from tests.at_hand import (BIG, ODD_VALUES, all_webs, bare_web, deep, full_web, leaving_webs, lots, pairs, path_web,
                           ring_web, some_webs, star_web, two_sided_web, webs_of_twelve)

LETTERS = "abcdefghijkl"


def letters(row):
    return "".join(LETTERS[x] for x in row)


def bodies(word, count):
    """All that can stand behind the web of so many places in a form, each with the value that it tells."""
    every = range(count)
    if word == "o":
        return [(letters(row), (row,)) for row in permutations(every)]
    if word == "r":
        return [(letters(row), (row,)) for size in range(4, count + 1) for row in permutations(every, size)
                if row[0] == min(row) and row[1] < row[-1]]
    if word == "f":
        return [(",".join(map(letters, row)), (row,)) for size in range(len(pairs(count)) + 1)
                for row in combinations(pairs(count), size)]
    some = sorted(lots(count)[1:])
    sets = [row for size in range(1, len(some) + 1) for row in combinations(some, size)]
    return [(f"{letters(lot)};{','.join(map(letters, row))}", (lot, row)) for lot in some for row in sets]


WORDS = {"o": "order", "r": "ring", "f": "filling", "a": "apart"}
# The numbers of places of which all forms are looked at.
COUNTS = {"o": (1, 2, 3, 4), "r": (4, 5), "f": (1, 2, 3), "a": (1, 2, 3)}


def all_forms(word):
    """All forms of these numbers of places, each with its value, in some webs."""
    told = {}
    for count in COUNTS[word]:
        for web in all_webs(count):
            for body, value in bodies(word, count):
                told[f"{word};{oracle.text(web)};{body}"] = (WORDS[word], web, *value)
    return told


def is_plain_paper(value):
    """Of a form, by the words of the document."""
    word, web, *more = value
    if word == "order":
        return lot_oracle.is_leaving_row(web, more[0])
    if word == "ring":
        return oracle.goes_round(web, more[0]) and not oracle.across(web, more[0])
    if word == "filling":
        whole = (web[0], tuple(sorted(web[1] + more[0])))
        return not set(web[1]) & set(more[0]) and not oracle.bare_lots(whole)
    lot, held = more
    return (oracle.none_tied(web, lot) and len(lot) == len(held) and {x for part in held for x in part} == set(range(web[0]))
            and all(part in lot_oracle.whole_lots(web) for part in held))


def some_papers():
    papers = []
    for web in all_webs(4)[::3] + some_webs(7, 8, 170) + leaving_webs(8, 8, 171) + webs_of_twelve()[::5]:
        if is_leaving(web):
            lot, cover = apart_paper(web)
            papers += [("order", web, first_order(web)), ("apart", web, lot, tuple(whole_lots(web)[at] for at in cover))]
        elif web[0] < 11:
            papers += [("ring", web, ring) for ring in bare_rings(web)[:3]]
        papers.append(("filling", web, fewest_filling(web)))
    return papers


class FormsTest(unittest.TestCase):

    def test_all_small_forms(self):
        for word in "orfa":
            for text, value in list(all_forms(word).items())[::1 if word in "of" else 11]:
                if is_plain_paper(value):
                    self.assertEqual(paper_told(text), value)
                    self.assertIs(is_paper(value), True)
                    self.assertEqual(paper_text(value), text)
                    continue
                self.assertIs(is_paper(value), False, value)
                with self.assertRaises(NotShown, msg=text) as caught:
                    paper_told(text)
                count = first_hitch(value[1], value[2]) if word == "o" else 0
                self.assertEqual(caught.exception.count, count, text)
                with self.assertRaises(InvalidPaper):
                    paper_text(value)

    def test_indexes_against_all_forms(self):
        chance = random.Random(172)
        begun = {"", *[word + ";" for word in "orfa"], *"orfa"}
        known = {}
        for word in "orfa":
            forms = list(all_forms(word))
            known[word] = forms
            begun |= {form[:at] for form in forms for at in range(len(form) + 1)}
        for word in "orfa":
            letters_seen = {LETTERS[count - 1] for count in COUNTS[word]}
            every = set(known[word])
            for _ in range(6000):
                text = self.changed(chance, chance.choice(known[word]))
                # Forms of other numbers of places are not at hand.
                if text[2:3] in set(LETTERS) - letters_seen and not (text[:1] == "r" and text[2:3] in "abc"):
                    continue
                if text in every or text[:1] != word:
                    continue
                index = max(at for at in range(len(text) + 1) if text[:at] in begun)
                with self.assertRaises(InvalidText, msg=text) as caught:
                    paper_told(text)
                self.assertEqual(caught.exception.index, index, text)

    def changed(self, chance, text):
        """The text cut, or with signs exchanged, put in, left out."""
        for _ in range(chance.randrange(1, 3)):
            at = chance.randrange(len(text) + 1)
            what = chance.randrange(5)
            sign = chance.choice("aabbccddef,,;;:o ")
            if what == 0:
                text = text[:at]
            elif what == 1:
                text = text[:at] + sign + text[at + 1:]
            elif what == 2:
                text = text[:at] + sign + text[at:]
            elif what == 3:
                text = text[:at] + text[at + 1:]
            else:
                text = text[:at] + text[at + 1:at + 2] + text[at:at + 1] + text[at + 2:]
        return text

    def test_each_cut_text(self):
        for paper in some_papers()[::3]:
            text = paper_text(paper)
            for at in range(len(text)):
                self.assert_index_or_form(text[:at], at)
            for sign in ("m", " ", "A", "%", "\n"):
                for at in range(0, len(text), 5):
                    self.assert_index(text[:at] + sign + text[at:], at)

    def assert_index_or_form(self, text, index):
        try:
            paper_told(text)
        except InvalidText as error:
            self.assertEqual(error.index, index)
        except NotShown:
            pass

    def assert_index(self, text, index):
        with self.assertRaises(InvalidText, msg=text) as caught:
            paper_told(text)
        self.assertEqual(caught.exception.index, index, text)

    def test_indexes(self):
        for text, index in (
                ("", 0), ("x", 0), (";", 0), ("O;a:;a", 0), ("o", 1), ("oa", 1), ("o;", 2), ("o;m:;", 2), ("o;a", 3),
                ("o;a;", 3), ("o;a:", 4), ("o;a:a", 4), ("o;a:,", 4), ("o;a:;", 5), ("o;a:;b", 5), ("o;a:;aa", 6),
                ("o;a:;a;", 6), ("o;b:ab,", 6), ("o;b:ab;", 7), ("o;b:ab;ab,", 9), ("o;c:ab;ca", 9), ("o;c:ab;cc", 8),
                ("r;a:;", 2), ("r;c:", 2), ("r;d:;b", 5), ("r;d:;a", 6), ("r;d:;ad", 6), ("r;d:;ac", 7), ("r;d:;acb", 8),
                ("r;d:;acd", 7), ("r;d:;aca", 7), ("r;d:;acbd", None), ("r;d:;acbdb", 9), ("r;e:;b", 6), ("r;e:;c", 5),
                ("r;e:;acbd", None), ("r;e:;acbde", None), ("r;e:;adbc", 9), ("r;e:;adbce", None), ("r;e:;ade", 7),
                ("r;e:;adeb", 7), ("r;e:;aedc", 6), ("r;e:;adbe", None), ("r;e:;bcda", 8), ("r;e:;bced", None),
                ("f;a:;", None), ("f;a:;a", 5), ("f;b:;ab", None), ("f;b:;ab,", 7), ("f;c:;bc,", 7), ("f;c:;b", 6),
                ("f;c:;ac,ab", 8), ("f;c:;ac,", 8), ("f;c:;ac,b", 9), ("f;c:;ca", 5), ("f;c:;;", 5), ("f;c:;ab;", 7),
                ("a;a:;", 5), ("a;a:;;", 5), ("a;a:;a", 6), ("a;a:;a;", 7), ("a;a:;a;a", None), ("a;a:;a;a,", 8),
                ("a;a:;aa", 6), ("a;b:;ba", 6), ("a;b:;a;a,", 9), ("a;b:;a;b,", 8), ("a;b:;a;a,a", 10), ("a;b:;a;a,ab", None),
                ("a;b:;a;ab,a", 10), ("a;b:;a;ab,b", None), ("a;c:;a;ab,a", 11), ("a;c:;a;ab,a,", 11), ("a;c:;a;ab,ac", None),
                ("a;c:;a;ab,ab", 12), ("a;c:;a;ab,ab,c", 12), ("a;c:;a;ab,abc", None), ("a;c:;a;abc,a", 12),
                ("a;c:;a;abc,ab", 12), ("a;c:;a;ac,ab", 10), ("a;c:;a;ac,a", 10), ("a;c:;a;a;", 8), ("a;c:;a,", 6),
                ("a;c:;a;,", 7), ("a;c:;a;bc,b", 10), ("a;c:;a;bc,bb", 10)):
            if index is None:
                self.assert_index_or_form(text, None)
            else:
                self.assert_index(text, index)

    def test_twelve_places(self):
        head = "r;l:;"
        self.assert_index(head + "j", 5)
        self.assertRaises(NotShown, paper_told, head + "ijlk")
        self.assert_index(head + "ij", 7)
        self.assert_index(head + "il", 6)
        self.assert_index("a;l:;abcdefghijkl;l,", 19)
        self.assert_index("a;l:;abcdefghijkl;k,kl,", 23)
        self.assert_index("o;l:;abcdefghijkk", 16)
        self.assert_index("f;l:;kl,", 7)
        self.assertEqual(paper_told("o;l:;lkjihgfedcba"), ("order", bare_web(12), tuple(range(12))[::-1]))
        text = f"f;{web_text(bare_web(12))};{web_text(full_web(12))[2:]}"
        self.assertEqual(paper_told(text), ("filling", bare_web(12), tuple(pairs(12))))

    def test_values_that_are_no_text(self):
        for value in [*ODD_VALUES, b"o;a:;a", ["o;a:;a"], ("o;a:;a",)]:
            with self.assertRaises(InvalidText) as caught:
                paper_told(value)
            self.assertEqual(caught.exception.index, 1 if type(value) is str and value[:1] == "a" else 0)
        with self.assertRaises(InvalidText) as caught:
            paper_told("o;" + "a" * 19998)
        self.assertEqual(caught.exception.index, 3)


class PapersTest(unittest.TestCase):

    def test_back_and_forth(self):
        for paper in some_papers():
            self.assertIs(is_paper(paper), True)
            text = paper_text(paper)
            self.assertEqual(paper_told(text), paper)
            self.assertEqual(paper_text(paper_told(text)), text)

    def test_any_value(self):
        path, ring = path_web(4), ring_web(4)
        wrong = [*ODD_VALUES, (), ("order",), ("order", path), ("order", path, (1, 0, 2, 3)), ["order", path, (0, 1, 2, 3)],
                 ("order", path, [0, 1, 2, 3]), ("order", path, (0, 1, 2, 3), ()), ("Order", path, (0, 1, 2, 3)),
                 ("o", path, (0, 1, 2, 3)), (b"order", path, (0, 1, 2, 3)), (["order"], path, (0, 1, 2, 3)),
                 ("order", ring, (0, 1, 2, 3)), ("order", [*path], (0, 1, 2, 3)), ("order", None, (0, 1, 2, 3)),
                 ("order", path, None), ("order", path, deep(list)), ("order", path, (0, 1, 2, BIG)),
                 ("ring", ring, (1, 2, 3, 0)), ("ring", ring, (0, 3, 2, 1)), ("ring", path, (0, 1, 2, 3)),
                 ("ring", ring, (0, 1, 2)), ("ring", ring, [0, 1, 2, 3]), ("ring", ring, None), ("ring", ring, ()),
                 ("filling", ring, ()), ("filling", ring, ((0, 1),)), ("filling", ring, ((2, 0),)), ("filling", ring, [(0, 2)]),
                 ("filling", ring, ((0, 2), (0, 2))), ("filling", ring, ((1, 3), (0, 2))), ("filling", path, None),
                 ("filling", ring, ((0, 2), (0, 3), (1, 3))), ("filling", ring, ((0, 2), None)), ("filling", ring),
                 ("apart", path, (0, 2)), ("apart", path, (0, 2), ((0, 1), (2, 3)), ()), ("apart", path, (2, 0), ((0, 1), (2, 3))),
                 ("apart", path, (0, 2), ((2, 3), (0, 1))), ("apart", path, (0, 1), ((0, 1), (2, 3))),
                 ("apart", path, (0, 2), ((0, 1), (1, 2))), ("apart", path, (0,), ((0, 1), (2, 3))),
                 ("apart", path, (0, 2), ((0, 1), (1, 2), (2, 3))), ("apart", path, (0, 2), [(0, 1), (2, 3)]),
                 ("apart", path, (0, 2), ([0, 1], (2, 3))), ("apart", path, (0, 2), ((0,), (1, 2, 3))),
                 ("apart", path, (), ()), ("apart", path, (0, 2), None), ("apart", path, None, ((0, 1), (2, 3))),
                 ("apart", path, (0, 2), ((0, 1), (0, 1)))]
        for value in wrong:
            self.assertIs(is_paper(value), False, value)
            with self.assertRaises(InvalidPaper, msg=value):
                paper_text(value)
        for value in (("order", path, (0, 3, 1, 2)), ("ring", ring, (0, 1, 2, 3)), ("filling", path, ()),
                      ("filling", path, ((0, 2), (0, 3))), ("filling", ring, ((0, 2), (1, 3))),
                      ("apart", path, (0, 2), ((0, 1), (2, 3))), ("apart", path, (1, 3), ((0, 1), (2, 3))),
                      ("apart", ring, (0, 2), ((0, 1), (2, 3))), ("apart", bare_web(1), (0,), ((0,),)),
                      ("order", bare_web(1), (0,)), ("filling", bare_web(1), ())):
            self.assertIs(is_paper(value), True, value)

    def test_texts(self):
        self.assertEqual(paper_text(("apart", bare_web(1), (0,), ((0,),))), "a;a:;a;a")
        self.assertEqual(paper_text(("filling", bare_web(1), ())), "f;a:;")
        self.assertEqual(paper_text(("order", full_web(3), (2, 0, 1))), "o;c:ab,ac,bc;cab")
        self.assertEqual(paper_text(("filling", ring_web(4), ((0, 2), (1, 3)))), "f;d:ab,ad,bc,cd;ac,bd")


class FactsTest(unittest.TestCase):

    def test_order_or_ring(self):
        for web in all_webs(4)[::2] + some_webs(6, 10, 173):
            orders = [row for row in permutations(range(web[0])) if is_paper(("order", web, row))]
            rings = [row for size in range(4, web[0] + 1) for row in permutations(range(web[0]), size)
                     if is_paper(("ring", web, row))]
            self.assertEqual([bool(orders), bool(rings)], [is_leaving(web), not is_leaving(web)])
            self.assertTrue(all(is_order(web, row) for row in orders))

    def test_apart_papers(self):
        for web in leaving_webs(6, 10, 174) + [star_web(6), path_web(6)]:
            lot, cover = apart_paper(web)
            paper = ("apart", web, lot, tuple(whole_lots(web)[at] for at in cover))
            self.assertIs(is_paper(paper), True)
            self.assertEqual([len(lot), len(cover)], [most_apart(web), fewest_cover(web)])
        for web in (two_sided_web(12), ring_web(12)):
            self.assertIs(is_paper(("filling", web, fewest_filling(web))), True)
            self.assertIs(is_filling(web, fewest_filling(web)), True)


if __name__ == "__main__":
    unittest.main()
