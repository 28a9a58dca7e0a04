"""Point 15.1: webs and plans as texts."""

import re
import unittest
from random import Random

from lightfirst.errors import BadPlan, BadText, BadWeb, KeepError
from lightfirst.plans import turned_back
from lightfirst.room import plan_for
from lightfirst.texts import plan_text, read_plan, read_web, web_text
from lightfirst.webs import Web
from tests import oracle

NUMBER = "(?:0|[1-9][0-9]{0,8})"
WEB_LINE = re.compile(f"web {NUMBER} {NUMBER}\n")
PIECE_LINE = re.compile(f"piece {NUMBER} {NUMBER}(?:,{NUMBER})*\n")
STEP_LINE = re.compile(f"(?:write|drop) {NUMBER}\n")
SIGNS = " 01239,-+._apw~\n"
WEB = Web(5, 2, (((1, 0), 10), ((0, 1), 1000000), ((1, 4), 3)))
TEXT = "web 5 2\npiece 10 1,0\npiece 1000000 0,1\npiece 3 1,4\n"
PLAN = (("write", 1), ("drop", 0), ("write", 39), ("drop", 10))
PLAN_TEXT = "write 1\ndrop 0\nwrite 39\ndrop 10\n"


def wrong_line(text, first, other, fewest):
    """None, or the line that BadText tells: the first place from which no line of the right form goes on."""
    at, number = 0, 0
    while True:
        found = (first if number == 0 else other).match(text, at)
        if found is None:
            break
        at, number = found.end(), number + 1
    return None if at == len(text) and number >= fewest else number + 1


def web_by_words(text):
    """What read_web tells, by the very words."""
    wrong = wrong_line(text, WEB_LINE, PIECE_LINE, 1)
    if wrong is not None:
        return ("BadText", {"line": wrong})
    head, *pieces = text.splitlines()
    _, prime, many = head.split()
    told = []
    for line in pieces:
        _, size, values = line.split()
        told.append((tuple(int(value) for value in values.split(",")), int(size)))
    return tried(Web, int(prime), int(many), tuple(told))


def plan_by_words(text):
    """What read_plan tells, by the very words."""
    wrong = wrong_line(text, STEP_LINE, STEP_LINE, 0)
    if wrong is not None:
        return ("BadText", {"line": wrong})
    plan = tuple((line.split()[0], int(line.split()[1])) for line in text.splitlines())
    if len(plan) > 2000 or any(piece > 39 for _, piece in plan):
        return ("BadPlan", {})
    return plan


def tried(call, *told):
    """What a call gives, or its error with its fields."""
    try:
        return call(*told)
    except KeepError as error:
        return (error.__class__.__name__, vars(error))


def spoilt(text):
    """The texts that come of one by a sign put in, taken away or changed, at every place."""
    found = {text}
    for at in range(len(text) + 1):
        found.add(text[:at] + text[at + 1:])
        for sign in SIGNS:
            found.add(text[:at] + sign + text[at:])
            found.add(text[:at] + sign + text[at + 1:])
    return sorted(found)


class Webs(unittest.TestCase):

    def test_written(self):
        self.assertEqual(web_text(WEB), TEXT)
        self.assertEqual(web_text(Web(2, 1, ())), "web 2 1\n")
        self.assertEqual(web_text(Web(251, 1, (((250,), 1),))), "web 251 1\npiece 1 250\n")

    def test_written_and_read_back(self):
        great = Web(251, 10, tuple((tuple(range(k, k + 10)), 10 ** 6 - k) for k in range(40)))
        for web in oracle.small_webs() + oracle.random_webs(151, 30) + [great, WEB, Web(2, 10, ())]:
            text = web_text(web)
            self.assertEqual(read_web(text), web)
            self.assertIs(type(read_web(text)), Web)
            self.assertEqual(web_text(read_web(text)), text)

    def test_spoilt_at_every_place(self):
        ends = {}
        for text in (TEXT, "web 2 1\npiece 7 1\n", "web 11 1\npiece 100000000 10\npiece 1 0\n"):
            for told in spoilt(text):
                right = web_by_words(told)
                self.assertEqual(tried(read_web, told), right, told)
                if isinstance(right, Web):
                    self.assertEqual(web_text(read_web(told)), told)
                end = right[0] if isinstance(right, tuple) else "right"
                ends[end] = ends.get(end, 0) + 1
        for end in ("right", "BadText", "BadWeb"):
            self.assertGreater(ends[end], 50)

    def check_lines(self, read, cases):
        for text, line in cases:
            with self.assertRaises(BadText, msg=text) as caught:
                read(text)
            self.assertEqual(caught.exception.line, line, text)

    def test_forms_of_lines(self):
        self.check_lines(read_web, (
            ("", 1), ("\n", 1), ("web 5 2", 1), ("web 5\n", 1), ("web 5 2 \n", 1), (" web 5 2\n", 1), ("web  5 2\n", 1),
            ("web 5 2 1\n", 1), ("web 05 2\n", 1), ("web 5 00\n", 1), ("web 5 -2\n", 1), ("web 5 +2\n", 1),
            ("Web 5 2\n", 1),
            ("piece 3 1\n", 1), ("web 1234567890 2\n", 1), ("web \u0665 2\n", 1), ("web 5 2\nweb 5 2\n", 2),
            ("web 5 2\n\n", 2),
            ("web 5 2\npiece 3 1,0", 2), ("web 5 2\npiece 3 \n", 2), ("web 5 2\npiece 3\n", 2),
            ("web 5 2\npiece 3 ,\n", 2),
            ("web 5 2\npiece 3 1,\n", 2), ("web 5 2\npiece 3 ,1\n", 2), ("web 5 2\npiece 3 1,,0\n", 2),
            ("web 5 2\npiece 3 1, 0\n", 2), ("web 5 2\npiece 3 1 0\n", 2), ("web 5 2\npiece 3 01,0\n", 2),
            ("web 5 2\npiece 3 1,0\nx", 3), ("web 5 2\npiece 3 1,0\n ", 3), ("web 5 2\npiece 1000000000 1,0\n", 2),
            ("web 5 2\npiece 3 1,1234567890\n", 2), ("web 5 2\npiece 3 1,0\npiece 0x1 1,0\n", 3),
            # The first wrong line ahead of what stands behind the last line feed.
            ("web 5 2\npiece\npiece 3 1,0", 2), ("web\nx", 1), ("x", 1)))

    def test_bad_webs_behind_bad_texts(self):
        cases = (("web 4 2\n", "prime"), ("web 0 0\n", "prime"), ("web 999999999 0\n", "prime"), ("web 5 0\n", "many"),
                 ("web 5 11\npiece 0 0\n", "many"), ("web 5 2\n" + "piece 3 1,0\n" * 41, "pieces"),
                 ("web 5 2\npiece 3 1,0\npiece 0 1,0\n", 1), ("web 5 2\npiece 1000001 1,0\n", 0),
                 ("web 5 2\npiece 3 0,0\n", 0), ("web 5 2\npiece 3 1\n", 0), ("web 5 2\npiece 3 1,5\n", 0),
                 ("web 5 2\npiece 3 1,0,0\n", 0), ("web 4 2\npiece 0 9,9,9\n", "prime"),
                 ("web 5 2\npiece 999999999 999999999,999999999\n", 0))
        for text, part in cases:
            with self.assertRaises(BadWeb, msg=text) as caught:
                read_web(text)
            self.assertEqual(caught.exception.part, part)
            # A wrong line further behind comes first.
            self.check_lines(read_web, ((text + "piece 3\n", text.count("\n") + 1),
                                        (text + "piece 3 1,0", text.count("\n") + 1)))

    def test_forty_pieces(self):
        web = read_web("web 2 1\n" + "piece 3 1\n" * 40)
        self.assertEqual(len(web.pieces), 40)

    def test_no_string(self):
        for thing in oracle.junk() + [0, 5, [TEXT], (TEXT,), TEXT.encode()]:
            for call in (read_web, read_plan):
                with self.assertRaises(BadText) as caught:
                    call(thing)
                self.assertEqual(caught.exception.line, 0 if not isinstance(thing, str) else 1)
                if thing == "":
                    break


class Plans(unittest.TestCase):

    def test_written(self):
        self.assertEqual((plan_text(PLAN), plan_text(())), (PLAN_TEXT, ""))
        self.assertEqual((read_plan(PLAN_TEXT), read_plan("")), (PLAN, ()))

    def test_written_and_read_back(self):
        chance = Random(152)
        plans = [tuple((chance.choice(("write", "drop")), chance.randrange(40)) for _ in range(many))
                 for many in (1, 2, 5, 100, 1999, 2000)]
        for web in oracle.random_webs(153, 14):
            keepings = oracle.keepings(web)
            plans.append(plan_for(web, keepings[0], keepings[-1]))
        for plan in plans:
            text = plan_text(plan)
            self.assertEqual(read_plan(text), plan)
            self.assertEqual(plan_text(read_plan(text)), text)

    def test_spoilt_at_every_place(self):
        ends = {}
        for text in (PLAN_TEXT, "", "drop 9\n"):
            for told in spoilt(text):
                right = plan_by_words(told)
                self.assertEqual(tried(read_plan, told), right, told)
                end = right[0] if right and isinstance(right[0], str) else "right"
                ends[end] = ends.get(end, 0) + 1
                if end == "right":
                    self.assertEqual(plan_text(read_plan(told)), told)
        for end in ("right", "BadText", "BadPlan"):
            self.assertGreater(ends[end], 20)

    def test_forms_of_lines(self):
        for text, line in (("write 1", 1), ("x", 1), ("\n", 1), ("write\n", 1), ("write 01\n", 1), ("write -1\n", 1),
                           ("Write 1\n", 1), ("write 1 \n", 1), ("write  1\n", 1), ("write 1\n\n", 2),
                           ("write 1\ndrop", 2),
                           ("write 1\ndrop 1\n ", 3), ("write 1234567890\n", 1), ("write 40\ndrop 1,2\n", 2),
                           ("drop +1\nx", 1), ("write 1\ndrop 1\nleave 1\nwrite", 3)):
            with self.assertRaises(BadText, msg=text) as caught:
                read_plan(text)
            self.assertEqual(caught.exception.line, line, text)

    def test_bad_plans_behind_bad_texts(self):
        for text in ("write 40\n", "drop 999999999\n", "write 1\ndrop 1\nwrite 100\n", "write 1\n" * 2001):
            self.assertRaises(BadPlan, read_plan, text)
            with self.assertRaises(BadText) as caught:
                read_plan(text + "write\n")
            self.assertEqual(caught.exception.line, text.count("\n") + 1)

    def test_two_thousand_lines_and_one_more(self):
        self.assertEqual(read_plan("write 1\n" * 2000), (("write", 1),) * 2000)
        self.assertEqual(plan_text((("write", 1),) * 2000), "write 1\n" * 2000)
        self.assertRaises(BadPlan, read_plan, "write 1\n" * 2001)
        self.assertRaises(BadPlan, plan_text, (("write", 1),) * 2001)

    def test_what_is_no_plan(self):
        for thing in oracle.junk() + [0, list(PLAN), (("write", 40),), (("write", -1),), (("write", True),),
                                      ("write", 1),
                                      (["write", 1],), (("write", 1, 1),), (("Drop", 1),), PLAN + (None,), PLAN_TEXT]:
            self.assertRaises(BadPlan, plan_text, thing)
            self.assertRaises(BadPlan, turned_back, thing)

    def test_kinds_of_what_is_returned(self):
        self.assertEqual([type(found) for found in (web_text(WEB), plan_text(PLAN), read_plan(PLAN_TEXT),
                                                    read_plan(PLAN_TEXT)[0], read_web(TEXT).pieces[0][0])],
                         [str, str, tuple, tuple, tuple])


if __name__ == "__main__":
    unittest.main()
