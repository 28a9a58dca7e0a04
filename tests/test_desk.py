"""Point 15.2: the desk and its tales."""

import re
import unittest
from random import Random

from lightfirst.contents import web_of
from lightfirst.desk import Desk, tale
from lightfirst.errors import BadDisk, Broken, KeepError, NoKeeping, NoRoom, NoRows, NoSaying, NoTale, Stopped
from lightfirst.house import House
from lightfirst.losses import powers
from lightfirst.plans import is_plan, room_of
from lightfirst.room import is_bar, least_room
from tests import oracle
from tests.test_house import SAFE, SAFE_ROWS
from tests.test_store import WORLDS
from tests.test_texts import spoilt

R = ((1, 2), (1, 3))
W = web_of(5, R, ((1, 0), (0, 1), (4, 1)))
NUMBER = "(0|[1-9][0-9]{0,8})"
LOT = "(-|(?:0|[1-9][0-9]{0,8})(?:,(?:0|[1-9][0-9]{0,8}))*)"
FORMS = [re.compile(form) for form in (
    f"(turn) {LOT}", "(lighten)", f"(strengthen) {NUMBER}", f"(work) {NUMBER}", f"(row) {NUMBER}", "(whole)", "(goal)",
    "(lost)", "(used)", f"(least) {LOT}", f"(plan) {LOT}", f"(bar) {LOT} {NUMBER}", f"(lose) {NUMBER}", "(rise)",
    "(power) (-|0|[1-9][0-9]{0,8})")]
LINES = ("turn 0,1,2", "turn -", "lighten", "strengthen 1", "work 100", "row 1", "whole", "goal", "lost", "used",
         "least 1,2", "plan 1,2", "bar 1,2 7", "lose 1", "rise", "power 10", "power -")


def words_of(line):
    """The words of a line that has a form, None for one that has none."""
    if isinstance(line, str):
        for form in FORMS:
            found = form.fullmatch(line)
            if found is not None:
                return found.groups()
    return None


def lot_of(word):
    """The lot of a word, as it stands."""
    return () if word == "-" else tuple(int(part) for part in word.split(","))


def numbers(told):
    """Numbers as they are told."""
    return " ".join(str(number) for number in told) or "none"


class ByHand:
    """A house that is led by hand, and what is said of it."""

    def __init__(self, web, rows, keeping, cells):
        self.web, self.house = web, House(web, rows, keeping, cells)

    def answer(self, line):
        """What is to be told to a line; for plan and bar, which are free, ("plan" or "bar", the lot, the room)."""
        words = words_of(line)
        if words is None:
            raise NoSaying()
        call, house = words[0], self.house
        if call in ("plan", "bar"):
            house.least_for(lot_of(words[1]))
            return (call, lot_of(words[1]), int(words[2]) if call == "bar" else None)
        if call == "least":
            return str(house.least_for(lot_of(words[1])))
        told = [lot_of(word) if call == "turn" else None if word == "-" else int(word) for word in words[1:]]
        found = getattr(house, call)(*told)
        if call in ("turn", "lighten", "strengthen", "power"):
            return "ok"
        if call in ("work", "used"):
            return str(found)
        return "none" if found is None else numbers(found)

    def tried(self, line):
        """What is to be told in a tale."""
        try:
            return self.answer(line)
        except KeepError as error:
            return f"({error.__class__.__name__})"


class Telling(unittest.TestCase):

    def check(self, found, right, hand):
        """Whether an answer is right; one that is free is tried."""
        if isinstance(right, str):
            self.assertEqual(found, right)
        elif right[0] == "plan":
            self.check_plan(found, hand.web, hand.house.whole(), right[1])
        else:
            self.check_bar(found, hand.web, hand.house.whole(), right[1], right[2])

    def check_plan(self, found, web, start, goal):
        words = {"+": "write", "-": "drop"}
        steps = [] if found == "none" else found.split(" ")
        for step in steps:
            self.assertRegex(step, r"^[+-](0|[1-9][0-9]?)$")
        plan = tuple((words[step[0]], int(step[1:])) for step in steps)
        self.assertIs(is_plan(web, start, goal, plan), True)
        self.assertEqual(room_of(web, start, plan), least_room(web, start, goal))

    def check_bar(self, found, web, start, goal, room):
        if room >= least_room(web, start, goal):
            self.assertEqual(found, "none")
            return
        self.assertRegex(found, f"^(start|goal|(from|back) {NUMBER} {LOT})$")
        words = found.split(" ")
        told = (words[0],) if len(words) == 1 else (words[0], int(words[1]), lot_of(words[2]))
        self.assertIs(is_bar(web, start, goal, room, told), True)

    def check_tale(self, web, rows, keeping, cells, lines):
        """A tale told line by line by a desk, and by a house led by hand; the list of what is told."""
        hand, desk = ByHand(web, rows, keeping, cells), Desk(web, rows, keeping, cells)
        found = tale(web, rows, keeping, cells, lines)
        self.assertEqual(len(found), len(lines))
        for line, told in zip(lines, found):
            right = hand.tried(line)
            self.check(told, right, hand)
            try:
                self.assertEqual(desk.tell(line), told)
            except KeepError as error:
                self.assertEqual(told, f"({error.__class__.__name__})")
        return found

    def test_each_line(self):
        found = self.check_tale(W, R, (0, 2), 8, LINES)
        self.assertEqual(found[:10], ["ok", "(NoKeeping)", "ok", "ok", "0", "1 3", "0 1 2", "0 1 2", "none", "8"])
        self.assertEqual(found[12:], ["start", "none", "0 1", "ok", "ok"])

    def test_answers(self):
        lines = ("goal", "lost", "whole", "used", "row 0", "row 1", "row 2", "least 1,2", "least 0,1,2", "plan 0,2",
                 "bar 0,2 4",
                 "bar 0,2 5", "turn 1,2", "goal", "work 0", "work 2", "whole", "used", "work 100", "whole", "used",
                 "lose 1", "lost", "whole", "row 0", "used", "lost", "rise")
        self.assertEqual(tale(W, R, (0, 2), 8, lines), [
            "none", "none", "0 2", "5", "1 2", "1 3", "(NoVersion)", "8", "8", "none", "start", "none", "ok", "1 2",
            "8", "6",
            "0 2", "5", "0", "1 2", "5", "0 1", "1", "2", "(Broken)", "2", "1", "(Broken)"])

    def test_steps_and_bars(self):
        self.assertEqual(tale(W, R, (0, 2), 8, ["plan 0,1,2", "plan 0,2", "bar 0,1,2 7", "bar 0,1,2 8", "bar 1,2 7"]),
                         ["+1", "none", "goal", "none", "from 3 0,2"])
        rows = ((0, 1), (1, 1))
        web = web_of(2, rows, ((1, 0), (0, 1), (1, 1)))
        lines = ["plan 0", "plan 1,0", "plan 0,2", "bar 0,2 7", "bar 0,2 6", "bar 0,2 5", "bar 0,2 4"]
        found = self.check_tale(web, rows, (0, 1), 9, lines)
        self.assertEqual(found[:5], ["(NoKeeping)", "(NoKeeping)", "+2 -1", "none", "from 2 0,1"])
        web = web_of(2, ((1,),), ((1,), (1,), (1,)))
        found = self.check_tale(web, ((1,),), (0,), 9, ["bar 0,1 3", "bar 0,1 4", "bar 0,1,2 999999999", "bar 1 0"])
        self.assertEqual(found, ["goal", "none", "none", "start"])

    def test_every_web(self):
        chance = Random(154)
        for web, rows in WORLDS + [(SAFE, SAFE_ROWS)]:
            for keeping in oracle.keepings(web)[::4]:
                lots = [",".join(map(str, lot)) for lot in oracle.keepings(web)[::3]]
                lines = [f"plan {lot}" for lot in lots] + [f"least {lot}" for lot in lots]
                lines += [f"bar {lot} {room}" for lot in lots for room in (0, 4, 7, chance.randrange(30))]
                lines += [f"row {version}" for version in range(web.many)] + ["whole", "used"]
                self.check_tale(web, rows, keeping, oracle.size(web, keeping) + 3, lines)

    def test_long_tales(self):
        chance = Random(155)
        seen = {}
        for web, rows in (WORLDS + [(SAFE, SAFE_ROWS)] * 3) * 2:
            keepings = oracle.keepings(web)
            for _ in range(9):
                start = chance.choice(keepings)
                lines = []
                for _ in range(40):
                    line = self.random_line(chance, web, keepings)
                    lines.append(line)
                    # Behind Stopped only rise is let; it is let at any time.
                    if line.split(" ")[0] in ("work", "turn", "lighten", "strengthen"):
                        lines.append("rise")
                found = self.check_tale(web, rows, start, oracle.size(web, start) + chance.randrange(9), lines)
                for line, told in zip(lines, found):
                    end = told if told.startswith("(") else "right"
                    seen[line.split(" ")[0], end] = seen.get((line.split(" ")[0], end), 0) + 1
        for at in (("work", "(Stopped)"), ("turn", "(NoRoom)"), ("turn", "(NoKeeping)"), ("lose", "(NoPiece)"),
                   ("row", "(NoVersion)"), ("strengthen", "(NoneSafe)"), ("strengthen", "(NoNumber)"),
                   ("plan", "right"),
                   ("rise", "(Broken)"), ("bar", "right"), ("power", "(NoNumber)"), ("work", "(NoNumber)"),
                   ("turn", "(NoSaying)")):
            self.assertGreater(seen.get(at, 0), 0, at)

    def random_line(self, chance, web, keepings):
        """A line, mostly a right one."""
        lot = ",".join(map(str, chance.choice(keepings)))
        many = chance.choice((0, 1, 2, 3, 5, 9, 40, 1000000, 1000001))
        return chance.choice((f"turn {lot}", f"turn {lot}", f"turn {lot}", "turn 0", "turn 1,0", "turn", "lighten",
                              f"strengthen {chance.choice((0, 1, 2, 12, 13))}", f"work {many}", f"work {many}",
                              f"row {chance.randrange(web.many + 1)}", "whole", "goal", "lost", "used", f"least {lot}",
                              f"plan {lot}", f"bar {lot} {chance.randrange(30)}",
                              f"lose {chance.randrange(len(web.pieces) + 1)}", "rise", f"power {many}", "power -"))


class Forms(unittest.TestCase):

    def test_spoilt_at_every_place(self):
        check = Telling().check
        right = wrong = 0
        for line in LINES + ("bar 0,2 10", "turn 0,2", "least 10,2", "power 0"):
            for told in spoilt(line):
                hand = ByHand(W, R, (0, 2), 8)
                found = tale(W, R, (0, 2), 8, (told,))
                check(found[0], hand.tried(told), hand)
                right += words_of(told) is not None
                wrong += words_of(told) is None
                self.assertIs(found == ["(NoSaying)"], words_of(told) is None)
        self.assertGreater(min(right, wrong), 300)

    def test_lines_of_another_form(self):
        desk = Desk(W, R, (0, 2), 8)
        for line in ("", " ", "\n", "whole\n", "\nwhole", " whole", "whole ", "whole 1", "Whole", "WHOLE", "work",
                     "work ",
                     "work 1 2", "work  1", "work -", "work -1", "work +1", "work 01", "work 00", "work 1234567890",
                     "work 1,2",
                     "work one", "lose -", "row -", "strengthen -", "power", "power -1", "power --", "power - -",
                     "power 1,2",
                     "turn", "turn ", "turn 0 2", "turn 0,", "turn ,0", "turn 0,,2", "turn ,", "turn --", "turn -,0",
                     "turn 0,-",
                     "turn 00", "turn 0,01", "turn (0,2)", "turn 0, 2", "turn 1234567890", "bar 0,2", "bar 7",
                     "bar 0,2 7 8",
                     "bar 0,2 -", "bar 7 0,2", "bar  0,2 7", "lighten 0", "rise 0", "goal -", "used -", "lost 0",
                     "turns 0,2",
                     "book", "reset", "none", "ok", "0", "-", "whole whole", "whole\nused"):
            self.assertIsNone(words_of(line), line)
            self.assertRaises(NoSaying, desk.tell, line)
        self.assertEqual((desk.tell("whole"), desk.tell("goal")), ("0 2", "none"))

    def test_no_string(self):
        desk = Desk(W, R, (0, 2), 8)
        for thing in oracle.junk() + [0, b"whole", ["whole"], ("whole",), {"whole": 0}]:
            self.assertRaises(NoSaying, desk.tell, thing)
            self.assertEqual(tale(W, R, (0, 2), 8, [thing, "used"]), ["(NoSaying)", "5"])

    def test_lots_that_do_not_ascend_have_the_form(self):
        desk = Desk(W, R, (0, 2), 8)
        for lot in ("2,0", "0,0", "0,0,2", "0,1,1", "-", "0", "999999999", "0,999999999", "0,2,3"):
            for line in (f"turn {lot}", f"least {lot}", f"plan {lot}", f"bar {lot} 0", f"bar {lot} 999999999"):
                self.assertRaises(NoKeeping, desk.tell, line)

    def test_nine_figures(self):
        self.assertEqual(tale(W, R, (0, 2), 8, ("work 999999999", "power 999999999", "strengthen 999999999",
                                                "lose 999999999", "row 999999999", "bar 1,2 999999999", "work 1000000",
                                                "power 1000000", "work 0")),
                         ["(NoNumber)", "(NoNumber)", "(NoNumber)", "(NoPiece)", "(NoVersion)", "none", "0", "ok", "0"])


class ErrorsOfTheDesk(unittest.TestCase):

    def test_what_a_house_raises(self):
        for make, more in ((Desk, ()), (tale, (None,)), (tale, (["whole"],))):
            for thing in oracle.junk() + [R[:1], ((1, 2), (1, 5))]:
                self.assertRaises(NoRows, make, W, thing, None, None, *more)
            for thing in oracle.junk() + [(0,), (2, 0), [0, 2]]:
                self.assertRaises(NoKeeping, make, W, R, thing, None, *more)
            for thing in oracle.no_integers() + [0, -1, 2001]:
                self.assertRaises(BadDisk, make, W, R, (0, 2), thing, *more)
            with self.assertRaises(NoRoom) as caught:
                make(W, R, (0, 2), 4, *more)
            self.assertEqual(caught.exception.least, 5)

    def test_no_tale(self):
        for thing in oracle.junk() + [0, "whole", {"whole": 0}, {0: "whole"}]:
            if not isinstance(thing, (list, tuple)):
                self.assertRaises(NoTale, tale, W, R, (0, 2), 5, thing)
        self.assertEqual((tale(W, R, (0, 2), 5, []), tale(W, R, (0, 2), 5, ())), ([], []))
        self.assertEqual(tale(W, R, (0, 2), 5, [0] * 300), ["(NoSaying)"] * 300)

    def test_tell_raises_and_tale_tells(self):
        desk = Desk(W, R, (0, 2), 7)
        with self.assertRaises(NoRoom) as caught:
            desk.tell("turn 0,1,2")
        self.assertEqual(caught.exception.least, 8)
        self.assertEqual(tale(W, R, (0, 2), 7, ("turn 0,1,2", "strengthen 1", "goal")),
                         ["(NoRoom)", "(NoRoom)", "none"])

    def test_stopped(self):
        lines = ("power 1", "turn 0,1,2", "work 100", "rise", "goal", "whole", "work 100", "whole", "row 0")
        self.assertEqual(tale(W, R, (0, 2), 8, lines),
                         ["ok", "ok", "(Stopped)", "0 1", "0 1 2", "0 2", "0", "0 1 2", "1 2"])
        desk = Desk(W, R, (0, 2), 8)
        desk.tell("power 0")
        desk.tell("turn 1,2")
        self.assertRaises(Stopped, desk.tell, "work 4")
        self.assertEqual(desk.tell("rise"), "0 1")

    def test_broken(self):
        lines = ("lose 0", "whole", "used", "lost", "lose 2", "rise", "row 0", "row 1", "turn -", "least 0", "plan 0",
                 "bar 0 0", "goal", "lighten", "strengthen 13", "work 1000001", "power -", "power 1000001", "plan",
                 "turn 0,")
        self.assertEqual(tale(W, R, (0, 2), 8, lines),
                         ["0 1", "2", "2", "0"] + ["(Broken)"] * 14 + ["(NoSaying)"] * 2)
        self.assertEqual(tale(W, R, (0, 1), 8, ("lose 1", "whole", "used")), ["1", "0", "3"])
        # A broken house with nothing whole.
        web = web_of(2, ((1,),), ((1,), (1,)))
        self.assertEqual(tale(web, ((1,),), (1,), 2, ("lose 1", "whole", "used", "lost")), ["0", "none", "0", "1"])
        desk = Desk(W, R, (0, 2), 8)
        desk.tell("lose 0")
        self.assertRaises(Broken, desk.tell, "plan 0")

    def test_too_many(self):
        rows = ((1,), (1,))
        web = web_of(13, rows, tuple(values for values, _ in powers(13, 2, 13, 5).pieces))
        self.assertEqual(tale(web, rows, (0, 1), 30, ("strengthen 0", "strengthen 13", "lighten")),
                         ["(TooMany)", "(NoNumber)", "ok"])

    def test_names_of_all_errors_are_their_classes(self):
        found = tale(W, R, (0, 2), 5, ("x", "row 2", "turn 0", "turn 0,1", "strengthen 13", "strengthen 2", "lose 1"))
        self.assertEqual(found, ["(NoSaying)", "(NoVersion)", "(NoKeeping)", "(NoRoom)", "(NoNumber)", "(NoneSafe)",
                                 "(NoPiece)"])

    def test_equal_to_itself_alone(self):
        desk = Desk(W, R, (0, 2), 8)
        self.assertTrue(desk == desk)
        self.assertFalse(desk == Desk(W, R, (0, 2), 8))

    def test_kinds_of_what_is_returned(self):
        self.assertEqual({type(told) for told in tale(W, R, (0, 2), 8, LINES)}, {str})
        self.assertIs(type(tale(W, R, (0, 2), 8, ())), list)


if __name__ == "__main__":
    unittest.main()
