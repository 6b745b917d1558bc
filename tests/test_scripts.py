"""Points 91, 92 and 96: scripts, and what they do at works."""

import random
import unittest
from kernelpapers.errors import (NoDeed, NoFit, NoHole, NoneGoes, NoneLeft, NoPaper, NotThere, PaperError)
from kernelpapers.kernel import settles
from kernelpapers.scripts import is_script, otherwise, run
from kernelpapers.search import search
from kernelpapers.work import Work
from goods import GROUND, Goods, NoGood, number
from samples import (A, B, C, K, NAT, NO_TERMS, NO_WHOLES, NOTHINGS, SUCC, ZERO, Stranger, app, at, every, fun, nested, refused,
                     refused_as)
from test_deeds_refused import DEEDS, NO_DEEDS
from test_handed import spoil
from test_work import no_hole

SKIP, BRING, STEPS = ("skip",), ("bring",), ("steps",)
PLUS, SUCC_OF = ("use", ("name", "plus"), (None, None)), ("use", SUCC, (None,))
ZERO_IT, FAIL = ("give", ZERO), ("give", SUCC)
# It fails with NoPaper, not with NoFit.
BROKEN = ("give", app(SUCC, NAT))


def then(*some):
    """Then of the first and then of the second and so on."""
    made = some[-1]
    for one in reversed(some[:-1]):
        made = ("then", one, made)
    return made


def first(*some):
    return ("first", some)


def each(script, *some):
    return ("each", script, some)


def again(script, many):
    return ("again", script, many)


def attempt(script):
    return ("try", script)


def none_goes(case, script, deed, *given):
    with case.assertRaises(NoneGoes) as caught:
        deed(*given)
    case.assertIs(caught.exception.__class__, NoneGoes)
    case.assertIs(caught.exception.found, script)
    case.assertEqual(NoneGoes.__bases__, (NoneLeft,))


SCRIPTS = [SKIP, then(SKIP, SKIP), then(BRING, STEPS), each(SKIP), each(BRING, SKIP, STEPS), first(SKIP), first(*DEEDS), attempt(BRING),
           again(SKIP, 0), again(BRING, 5), ("seek", 0), ("seek", 6), attempt(first(then(each(again(SKIP, 1), STEPS), ("seek", 3)), BRING)),
           each(each(each(SKIP, SKIP), SKIP), SKIP)]
NO_SCRIPTS = [thing for thing in NO_DEEDS if not (isinstance(thing, tuple) and thing and thing[0] in (
    "skip", "then", "each", "first", "try", "again", "seek"))] + [
    ("skip", ()), ("skip", SKIP), ["skip"], ("then",), ("then", SKIP), ("then", SKIP, SKIP, SKIP), ("then", SKIP, None), ("then", None, SKIP),
    ("then", ["skip"], SKIP), ("then", (SKIP, SKIP)), ("each",), ("each", SKIP), ("each", SKIP, SKIP), ("each", SKIP, [SKIP]),
    ("each", SKIP, None), ("each", None, ()), ("each", (SKIP,)), ("each", SKIP, (SKIP, 0)), ("each", SKIP, (), ()), ("first",), ("first", ()),
    ("first", SKIP), ("first", SKIP, SKIP), ("first", [SKIP]), ("first", None), ("first", (None,)), ("first", (SKIP, ())),
    ("first", "skip"), ("try",), ("try", None), ("try", (SKIP,)), ("try", SKIP, SKIP), ("again",), ("again", SKIP), ("again", 1, SKIP),
    ("again", SKIP, -1), ("again", SKIP, 6), ("again", SKIP, True), ("again", SKIP, None), ("again", SKIP, "1"), ("again", None, 1),
    ("again", SKIP, 1, 1), ("seek",), ("seek", -1), ("seek", 7), ("seek", True), ("seek", None), ("seek", "3"), ("seek", 1, 1), ("seek", SKIP),
    ("Skip",), ("then", ("try", ("give", 0)), SKIP), ("first", (SKIP, ("each", SKIP, (("seek", 9),)))), (SKIP,), ("skip", "skip"),
    ("then", Stranger(), SKIP), ("often", SKIP, 2), ("Again", SKIP, 1), ("eachs", SKIP, (SKIP,)), ("so", SKIP, SKIP),
    ("attempt", SKIP), ("firsts", (SKIP,)), ("seeks", 2), ("none",), (Stranger(),), (Stranger(), 2), (Stranger(), SKIP, SKIP), (None,), (None, 2), (1, SKIP, 2),
    ("seek", Stranger()), ("again", SKIP, Stranger()), ("first", Stranger()), ("each", SKIP, Stranger())]


class IsScript(unittest.TestCase):
    def test_scripts(self):
        for script in [*SCRIPTS, *DEEDS]:
            self.assertIs(is_script(script), True, script)
        for many in range(6):
            self.assertIs(is_script(again(SKIP, many)), True)
        for depth in range(7):
            self.assertIs(is_script(("seek", depth)), True)
        self.assertIs(is_script(thing=SKIP), True)
        self.assertIs(is_script(first(*[SKIP] * 59)), True)
        script = SKIP
        for _ in range(11):
            script = attempt(script)
        self.assertIs(is_script(script), True)

    def test_what_is_none(self):
        for thing in NO_SCRIPTS:
            self.assertIs(is_script(thing), False)
            self.assertIs(is_script(attempt(thing)), False)
            self.assertIs(is_script(each(SKIP, SKIP, thing)), False)
            self.assertIs(is_script(first(thing)), False)
            self.assertIs(is_script(then(thing, SKIP)), False)
            self.assertIs(is_script(again(thing, 2)), False)
        for thing in NO_TERMS:
            self.assertIs(is_script(("give", thing)), False)
        deep = nested("tuple", 60)
        self.assertIs(is_script(deep), False)


class Run(unittest.TestCase):
    def setUp(self):
        self.work = Work(GROUND, NAT)

    def leaves(self, hole, script, left, filled=None, work=None):
        work = self.work if work is None else work
        self.assertEqual(run(work, hole, script), left)
        if filled is not None:
            self.assertEqual([(one, holes) for one, _, holes in work.filled()], filled)

    def stays(self, hole, script):
        """It is refused, and all is as it was, numbers too."""
        ahead = self.work.twin()
        with self.assertRaises((PaperError, NoneLeft)) as caught:
            run(self.work, hole, script)
        self.assertEqual(self.work, ahead)
        self.assertEqual(self.work.holes(), ahead.holes())
        for left in range(self.work.mark()[2], 30):
            no_hole(self, left, self.work.goal, left)
        twin, other = self.work.twin(), ahead.twin()
        self.assertEqual(twin.do(hole, PLUS), other.do(hole, PLUS))
        return caught.exception

    def test_deeds(self):
        self.leaves(0, PLUS, [1, 2], [(0, [1, 2])])
        self.leaves(2, ZERO_IT, [], [(0, [1, 2]), (2, [])])
        self.leaves(1, STEPS, [3])

    def test_skip(self):
        self.leaves(0, SKIP, [0], [])
        self.leaves(0, PLUS, [1, 2])
        self.leaves(2, SKIP, [2])
        self.leaves(2, then(SKIP, SKIP), [2])

    def test_by_names(self):
        self.assertEqual(run(deeds=PLUS, hole=0, work=self.work), [1, 2])
        self.assertEqual(otherwise(deeds=PLUS), PLUS)

    def test_then(self):
        self.leaves(0, then(PLUS, SUCC_OF), [3, 4], [(0, [1, 2]), (1, [3]), (2, [4])])
        self.leaves(3, then(ZERO_IT, FAIL), [])
        self.leaves(4, ("then", ("then", PLUS, PLUS), PLUS), [11, 12, 13, 14, 15, 16, 17, 18],
                    [(0, [1, 2]), (1, [3]), (2, [4]), (3, []), (4, [5, 6]), (5, [7, 8]), (6, [9, 10]), (7, [11, 12]), (8, [13, 14]),
                     (9, [15, 16]), (10, [17, 18])])

    def test_then_goes_hole_by_hole(self):
        # Behind the first hole all of the second script is run ahead of the second hole.
        self.leaves(0, then(PLUS, then(PLUS, STEPS)), [5, 6, 9, 10],
                    [(0, [1, 2]), (1, [3, 4]), (2, [7, 8]), (3, [5]), (4, [6]), (7, [9]), (8, [10])])

    def test_each(self):
        self.leaves(0, each(PLUS, ZERO_IT, PLUS), [3, 4], [(0, [1, 2]), (1, []), (2, [3, 4])])
        self.leaves(3, each(PLUS, SKIP, STEPS), [5, 7])
        self.leaves(4, each(SKIP, STEPS), [8])
        self.leaves(8, each(SKIP, SKIP), [8])
        self.leaves(8, each(ZERO_IT), [])

    def test_each_with_a_script_too_few_or_too_many(self):
        for script in [each(PLUS), each(PLUS, SKIP), each(PLUS, SKIP, SKIP, SKIP), each(ZERO_IT, SKIP), each(SKIP), each(SKIP, SKIP, SKIP),
                       each(then(PLUS, PLUS), SKIP, SKIP)]:
            self.assertIs(self.stays(0, script).__class__, NoFit)
            self.assertIs(self.stays(0, script).found, script)
            # The whole each, where it stands within others.
            for whole in [then(SKIP, script), then(STEPS, STEPS, script), each(STEPS, script), then(again(SKIP, 3), script)]:
                self.assertIs(self.stays(0, whole).found, script)
        # What is run first is refused first.
        self.assertIs(self.stays(0, each(FAIL, SKIP)).found, FAIL)

    def test_first(self):
        self.leaves(0, first(PLUS, STEPS), [1, 2])
        self.leaves(1, first(FAIL, BROKEN, BRING, STEPS, PLUS), [3])
        self.leaves(2, first(then(PLUS, FAIL), then(PLUS, BROKEN), SKIP), [2], [(0, [1, 2]), (1, [3])])
        # Numbers that were given by what is refused are given again.
        self.leaves(2, first(then(PLUS, PLUS, FAIL), STEPS), [4])

    def test_a_first_all_of_which_are_refused(self):
        for script in [first(FAIL), first(FAIL, BROKEN), first(then(PLUS, FAIL), BRING), first(first(FAIL), FAIL)]:
            none_goes(self, script, run, self.work, 0, script)
            self.assertIs(self.stays(0, script).found, script)
            for whole in [then(PLUS, script), then(STEPS, each(SKIP, script))]:
                self.assertIs(self.stays(0, whole).__class__, NoneGoes)
                self.assertIs(self.stays(0, whole).found, script)

    def test_try(self):
        self.leaves(0, attempt(FAIL), [0], [])
        self.leaves(0, attempt(then(PLUS, PLUS, FAIL)), [0], [])
        self.leaves(0, attempt(PLUS), [1, 2])
        self.leaves(2, attempt(ZERO_IT), [])
        self.leaves(1, then(attempt(BROKEN), STEPS), [3])
        self.leaves(3, attempt(first(FAIL)), [3])
        self.leaves(3, attempt(each(SKIP)), [3])
        self.leaves(3, attempt(("seek", 0)), [3])

    def test_again(self):
        self.leaves(0, again(PLUS, 0), [0], [])
        self.leaves(0, again(FAIL, 0), [0], [])
        self.leaves(0, again(FAIL, 5), [0], [])
        self.leaves(0, again(SUCC_OF, 3), [3], [(0, [1]), (1, [2]), (2, [3])])
        self.leaves(3, again(SUCC_OF, 5), [8])
        self.leaves(8, again(PLUS, 2), [11, 12, 13, 14])
        # It goes on beneath each hole, as deep as told, ahead of the next one.
        self.assertEqual(self.work.left(9), [11, 12])
        self.assertEqual(self.work.left(10), [13, 14])

    def test_again_until_it_is_refused(self):
        work = Work(GROUND, every(NAT, every(NAT, every(NAT, NAT))))
        self.assertEqual(run(work, 0, again(BRING, 5)), [3])
        self.assertEqual(work.goal(3), ([NAT, NAT, NAT], NAT))
        self.assertEqual(run(work, 3, again(BRING, 5)), [3])
        work = Work(GROUND, every(NAT, NAT))
        self.assertEqual(run(work, 0, then(again(BRING, 5), ("give", A))), [])
        self.assertEqual(work.paper(), fun(NAT, A))

    def test_again_goes_beneath_each_hole_as_often_as_is_left(self):
        # The first hole is closed at the second time, the other one goes on.
        script = again(each(PLUS, ZERO_IT, SKIP), 3)
        self.leaves(0, script, [6], [(0, [1, 2]), (1, []), (2, [3, 4]), (3, []), (4, [5, 6]), (5, [])])
        self.leaves(6, again(first(SUCC_OF), 2), [8])

    def test_again_what_does_nothing(self):
        script = SKIP
        for _ in range(11):
            script = again(script, 5)
        self.leaves(0, script, [0], [])
        self.leaves(0, again(attempt(FAIL), 5), [0], [])
        self.leaves(0, again(then(SKIP, again(STEPS, 0)), 5), [0], [])

    def test_scripts_within_one_another(self):
        script = then(PLUS, first(each(STEPS, then(attempt(FAIL), PLUS)), SKIP), attempt(then(ZERO_IT, FAIL)))
        self.leaves(0, script, [])
        self.assertEqual(self.work.paper(), app(("name", "plus"), app(("name", "plus"), ZERO, ZERO), app(("name", "plus"), ZERO, ZERO)))
        self.assertEqual([(hole, left) for hole, _, left in self.work.filled()],
                         [(0, [1, 2]), (1, [3]), (2, [6]), (3, [4, 5]), (4, []), (5, []), (6, [7, 8]), (7, []), (8, [])])

    def test_what_is_left_in_the_order_in_which_it_stands(self):
        self.leaves(0, PLUS, [1, 2])
        self.leaves(2, PLUS, [3, 4])
        self.leaves(1, then(PLUS, attempt(PLUS)), [7, 8, 9, 10])
        self.assertEqual(self.work.holes(), [7, 8, 9, 10, 3, 4])

    def test_what_is_refused_leaves_all_as_it_was(self):
        self.work.do(0, PLUS)
        self.work.do(2, PLUS)
        self.work.undo(2)
        for script, error in [(FAIL, NoFit), (BROKEN, NoPaper), (then(PLUS, FAIL), NoFit), (then(PLUS, PLUS, BROKEN), NoPaper),
                              (each(PLUS, ZERO_IT, BRING), NoFit), (then(attempt(PLUS), first(BROKEN)), NoneGoes),
                              (then(again(PLUS, 2), FAIL), NoFit), (then(STEPS, ("seek", 0)), NoneGoes)]:
            for hole in (1, 2):
                self.assertIs(self.stays(hole, script).__class__, error)
        self.assertEqual(run(self.work, 1, PLUS), [5, 6])

    def test_what_a_script_within_is_refused_with(self):
        self.assertIs(self.stays(0, then(PLUS, each(PLUS, SKIP, FAIL))).found, FAIL)
        refusal = self.stays(0, then(PLUS, BROKEN))
        self.assertEqual((refusal.spot, refusal.why), ((1,), "unlike"))
        bring = ("bring",)
        self.assertIs(self.stays(0, then(STEPS, STEPS, bring)).found, bring)


class Refused(unittest.TestCase):
    def test_holes_of_any_kind_go_first(self):
        work = Work(GROUND, NAT)
        work.do(0, PLUS)
        for thing in [*NOTHINGS, 0, 3, 10 ** 29, "1", (), (1,), Stranger()]:
            for script in (SKIP, PLUS, FAIL, None, ("skip", 0)):
                no_hole(self, thing, run, work, thing, script)
        self.assertEqual(work.holes(), [1, 2])

    def test_no_scripts_of_any_kind(self):
        work = Work(GROUND, NAT)
        for thing in NO_SCRIPTS:
            refused(self, NoDeed, thing, run, work, 0, thing)
            refused(self, NoDeed, thing, otherwise, thing)
            whole = then(PLUS, thing)
            refused(self, NoDeed, whole, run, work, 0, whole)
            refused(self, NoDeed, whole, otherwise, whole)
        self.assertEqual((work.holes(), work.do(0, PLUS)), ([0], [1, 2]))

    def test_told_lists_are_the_askers_own(self):
        for script in (SKIP, PLUS, then(PLUS, SKIP), attempt(FAIL), again(PLUS, 1), each(PLUS, SKIP, SKIP), first(PLUS)):
            work = Work(GROUND, NAT)
            told = run(work, 0, script)
            ahead = list(told)
            spoil(told)
            self.assertEqual(work.holes(), ahead)
            if ahead != [0]:
                self.assertEqual(work.left(0), ahead)


class Seek(unittest.TestCase):
    def test_it_gives_what_a_search_finds(self):
        for goal, room in [(NAT, []), (every(NAT, NAT), []), (A, [K]), (B, [K, A]), (every(K, every(A, B)), []),
                           (app(("thing", "list"), NAT), []), (app(fun(K, A), NAT), [])]:
            for depth in range(7):
                work = Work(GROUND, goal, room)
                script = ("seek", depth)
                paper = search(GROUND, room, goal, depth)
                if paper is None:
                    none_goes(self, script, run, work, 0, script)
                    self.assertEqual((work.holes(), work.filled()), ([0], []))
                else:
                    self.assertEqual(run(work, 0, script), [])
                    self.assertEqual(work.filled(), [(0, ("give", paper), [])])
                    self.assertTrue(settles(GROUND, room, work.paper(), goal))

    def test_depths(self):
        room = [K, A, every(B, NAT), every(NAT, ("thing", "bool"))]
        goal = every(("thing", "none"), ("thing", "none"))
        for depth, told in [(0, None), (1, None), (2, []), (6, [])]:
            work = Work(GROUND, goal, room)
            script = ("seek", depth)
            if told is None:
                none_goes(self, script, run, work, 0, script)
            else:
                self.assertEqual(run(work, 0, script), told)

    def test_within_scripts(self):
        none = ("thing", "none")
        work = Work(GROUND, every(K, every(A, every(every(B, none), none))))
        self.assertEqual(run(work, 0, then(again(BRING, 5), ("seek", 2))), [])
        self.assertEqual(work.paper(), fun(K, fun(A, fun(every(B, none), app(A, B)))))
        work = Work(GROUND, ("thing", "none"), [])
        seek = ("seek", 6)
        none_goes(self, seek, run, work, 0, then(STEPS, seek))
        self.assertEqual(run(work, 0, first(seek, STEPS)), [1])
        self.assertEqual(run(work, 1, attempt(seek)), [1])


class Otherwise(unittest.TestCase):
    def becomes(self, script, told):
        self.assertEqual(otherwise(script), told)
        self.assertEqual(otherwise(told), told)
        self.assertTrue(is_script(told))

    def test_thens(self):
        self.becomes(("then", ("then", PLUS, BRING), STEPS), then(PLUS, BRING, STEPS))
        self.becomes(("then", ("then", ("then", PLUS, BRING), STEPS), FAIL), then(PLUS, BRING, STEPS, FAIL))
        self.becomes(("then", ("then", PLUS, BRING), ("then", STEPS, FAIL)), then(PLUS, BRING, STEPS, FAIL))
        self.becomes(then(PLUS, ("then", ("then", BRING, STEPS), FAIL)), then(PLUS, BRING, STEPS, FAIL))
        self.becomes(then(PLUS, BRING), then(PLUS, BRING))

    def test_skips(self):
        self.becomes(then(SKIP, PLUS), PLUS)
        self.becomes(then(PLUS, SKIP), PLUS)
        self.becomes(then(SKIP, SKIP), SKIP)
        self.becomes(then(SKIP, SKIP, SKIP, PLUS, SKIP), PLUS)
        self.becomes(("then", ("then", PLUS, SKIP), ("then", SKIP, BRING)), then(PLUS, BRING))
        self.becomes(SKIP, SKIP)

    def test_firsts(self):
        self.becomes(first(first(PLUS, BRING), STEPS), first(PLUS, BRING, STEPS))
        self.becomes(first(PLUS, first(BRING), STEPS), first(PLUS, BRING, STEPS))
        self.becomes(first(PLUS, first(BRING, first(STEPS, FAIL)), first(SKIP)), first(PLUS, BRING, STEPS, FAIL, SKIP))
        self.becomes(first(PLUS), first(PLUS))
        self.becomes(first(first(PLUS)), first(PLUS))

    def test_tries(self):
        self.becomes(attempt(PLUS), first(PLUS, SKIP))
        self.becomes(attempt(attempt(PLUS)), first(PLUS, SKIP, SKIP))
        self.becomes(attempt(first(PLUS, BRING)), first(PLUS, BRING, SKIP))
        self.becomes(first(attempt(PLUS), BRING), first(PLUS, SKIP, BRING))
        self.becomes(attempt(SKIP), first(SKIP, SKIP))
        self.becomes(then(attempt(PLUS), SKIP), first(PLUS, SKIP))

    def test_anywhere(self):
        turned, told = ("then", ("then", SKIP, attempt(PLUS)), SKIP), first(PLUS, SKIP)
        self.becomes(each(turned, turned, SKIP, turned), each(told, told, SKIP, told))
        self.becomes(each(SKIP), each(SKIP))
        self.becomes(again(turned, 4), again(told, 4))
        self.becomes(again(SKIP, 0), again(SKIP, 0))
        self.becomes(first(then(turned, BRING), again(turned, 1)), first(then(told, BRING), again(told, 1)))
        self.becomes(then(each(turned), turned), then(each(told), told))
        self.becomes(then(first(then(SKIP, first(PLUS, BRING)), STEPS), SKIP), first(PLUS, BRING, STEPS))
        self.becomes(attempt(then(SKIP, attempt(then(SKIP, SKIP)))), first(SKIP, SKIP, SKIP))

    def test_what_has_no_turns(self):
        for script in [*DEEDS, ("seek", 3), each(PLUS, BRING, STEPS), first(PLUS, BRING), again(PLUS, 3), then(PLUS, BRING, STEPS),
                       then(first(PLUS), first(BRING)), each(first(PLUS), then(PLUS, BRING))]:
            self.becomes(script, script)

    def test_sixty_scripts(self):
        made = PLUS
        for _ in range(11):
            made = ("then", made, BRING)
        self.becomes(made, then(PLUS, *[BRING] * 11))
        self.becomes(first(*[first(PLUS)] * 29), first(*[PLUS] * 29))
        # What is told may be handed in again, whatever its size.
        wide = first(*[then(*[PLUS] * 9)] * 3)
        for _ in range(3):
            wide = ("then", wide, wide)
        self.assertEqual(otherwise(otherwise(wide)), otherwise(wide))


def all_turns(script):
    """Every script that comes of one turn, made anywhere in it."""
    found = []
    word = script[0]
    if word == "then":
        one, other = script[1:]
        if one[0] == "then":
            found.append(("then", one[1], ("then", one[2], other)))
        if one == SKIP:
            found.append(other)
        if other == SKIP:
            found.append(one)
    if word == "first":
        found += [("first", (*script[1][:k], *inner[1], *script[1][k + 1:])) for k, inner in enumerate(script[1]) if inner[0] == "first"]
    if word == "try":
        found.append(("first", (script[1], SKIP)))
    if word in ("then", "each", "try", "again"):
        found += [(word, inner, *script[2:]) for inner in all_turns(script[1])]
    if word == "then":
        found += [(word, script[1], inner) for inner in all_turns(script[2])]
    if word in ("first", "each"):
        where = 1 if word == "first" else 2
        for k, one in enumerate(script[where]):
            found += [(*script[:where], (*script[where][:k], inner, *script[where][k + 1:])) for inner in all_turns(one)]
    return found


class ByChance(unittest.TestCase):
    def script(self, chance, deep, deeds):
        word = chance.choice(["then", "then", "each", "first", "try", "again", "skip", "seek", "deed"]) if deep else "deed"
        if word == "deed":
            return chance.choice(deeds)
        if word == "skip":
            return SKIP
        if word == "seek":
            return ("seek", chance.randrange(4))
        if word == "try":
            return ("try", self.script(chance, deep - 1, deeds))
        if word == "again":
            return ("again", self.script(chance, deep - 1, deeds), chance.randrange(3))
        if word == "then":
            return ("then", self.script(chance, deep - 1, deeds), self.script(chance, deep - 1, deeds))
        some = tuple(self.script(chance, deep - 1, deeds) for _ in range(chance.randrange(1, 4)))
        return first(*some) if word == "first" else ("each", self.script(chance, deep - 1, deeds), some)

    def test_in_whatever_order_the_turns_are_made(self):
        chance = random.Random(93)
        for _ in range(150):
            script = self.script(chance, 4, [PLUS, BRING, SKIP])
            told = otherwise(script)
            self.assertEqual(all_turns(told), [])
            for _ in range(3):
                made = script
                while all_turns(made):
                    made = chance.choice(all_turns(made))
                self.assertEqual(made, told)

    def outcome(self, goal, room, script):
        """The goals as they stand, and the paper where no hole is left; None where it is refused."""
        work = Work(GROUND, goal, room)
        try:
            left = run(work, 0, script)
        except (PaperError, NotThere, NoneLeft):
            self.assertEqual((work.holes(), work.filled()), ([0], []))
            self.assertEqual(work.mark()[2], 1)
            return None
        self.assertEqual(left, work.holes())
        if not left:
            self.assertTrue(settles(GROUND, room, work.paper(), goal))
        return [work.goal(hole) for hole in left], None if left else work.paper()

    def test_it_leaves_the_same_goals_and_paper(self):
        chance = random.Random(92)
        deeds = [PLUS, SUCC_OF, BRING, STEPS, ZERO_IT, ("give", A), ("split", 0), ("make", 1, (None,)), ("make", 0, ()), ("cut", NAT)]
        seen = {"refused": 0, "left": 0, "closed": 0}
        for _ in range(400):
            room = chance.choice([[], [NAT], [K, A]])
            goal = chance.choice([NAT, every(NAT, NAT), every(NAT, every(NAT, ("thing", "bool"))), ("name", "nums")])
            script = self.script(chance, 3, deeds)
            told = self.outcome(goal, room, script)
            self.assertEqual(self.outcome(goal, room, otherwise(script)), told, script)
            seen["refused" if told is None else "left" if told[0] else "closed"] += 1
        self.assertTrue(min(seen.values()) > 20, seen)

    def test_against_a_plain_run(self):
        chance = random.Random(91)
        deeds = [PLUS, SUCC_OF, BRING, STEPS, ZERO_IT, FAIL, BROKEN]
        for _ in range(300):
            script = self.script(chance, 3, deeds)
            work, other = Work(GROUND, NAT), Work(GROUND, NAT)
            try:
                wanted = plain_run(other, 0, script)
            except Exception as refusal:
                with self.assertRaises(refusal.__class__) as caught:
                    run(work, 0, script)
                self.assertEqual(vars(caught.exception), vars(refusal))
                self.assertEqual((work.holes(), work.filled()), ([0], []))
                continue
            self.assertEqual(run(work, 0, script), wanted)
            self.assertEqual(work, other)
            self.assertEqual(work.twin().mark()[2], other.mark()[2])


def plain_run(work, hole, script):
    """Point 92 as plainly as the document has it; what is refused is put back to a twin."""
    ahead = work.twin()
    try:
        return plain_run_on(work, hole, script)
    except Exception:
        work.put_back(ahead)
        raise


def plain_run_on(work, hole, script):
    word, *rest = script
    if word == "skip":
        return [hole]
    if word == "then":
        return [left for one in plain_run(work, hole, rest[0]) for left in plain_run(work, one, rest[1])]
    if word == "each":
        holes = plain_run(work, hole, rest[0])
        if len(holes) != len(rest[1]):
            raise NoFit(script)
        return [left for one, inner in zip(holes, rest[1]) for left in plain_run(work, one, inner)]
    if word == "first":
        for inner in rest[0]:
            try:
                return plain_run(work, hole, inner)
            except (PaperError, NoneLeft):
                pass
        raise NoneGoes(script)
    if word == "try":
        return plain_run_on(work, hole, first(rest[0], SKIP))
    if word == "again":
        if rest[1] == 0:
            return [hole]
        try:
            holes = plain_run(work, hole, rest[0])
        except (PaperError, NoneLeft):
            return [hole]
        return [left for one in holes for left in plain_run(work, one, (word, rest[0], rest[1] - 1))]
    if word == "seek":
        room, saying = work.goal(hole)
        paper = search(GROUND, room, saying, rest[0])
        if paper is None:
            raise NoneGoes(script)
        return work.do(hole, ("give", paper))
    return work.do(hole, script)


if __name__ == "__main__":
    unittest.main()
