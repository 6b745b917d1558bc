"""Points 31 and 32: the four rules, all steps of a term, and what it becomes at a spot."""

import unittest
from kernelpapers.errors import NoGround, NoStep, NoTerm
from kernelpapers.grounds import Ground
from kernelpapers.steps import steps, stepped
import plain
from goods import (BELIEF, BOOL, CODES, FAMILY, GROUND, IDS, NODE, NIL, MORE, ORDS, PLUS, SOME, WIDE, NO, YES, Goods, feed, number,
                   part_of, with_part)
from samples import (A, B, C, K, LEAVES, LIST, NAT, NATS, NONE, NO_GROUNDS, NO_TERMS, NOTHINGS, SUCC, TERMS, TREE, ZERO, Maker,
                     app, at, by_places, every, fun, refused)

EMPTY = Ground()


def itself(case, ground, term, rule, told):
    """The term goes at its own spot by this rule alone, and becomes this."""
    case.assertEqual([step for step in steps(ground, term) if step[0] == ()], [((), rule, told)])
    case.assertEqual(stepped(ground, term, ()), told)


def stays(case, ground, term):
    """The term doesn't go at its own spot."""
    case.assertEqual([step for step in steps(ground, term) if step[0] == ()], [])
    spot = ()
    refused(case, NoStep, spot, stepped, ground, term, spot)


class Give(unittest.TestCase):
    def test_by_hand(self):
        itself(self, EMPTY, app(fun(K, A), NAT), "give", NAT)
        itself(self, EMPTY, app(fun(K, B), NAT), "give", A)
        itself(self, EMPTY, app(fun(K, app(A, C, fun(A, app(A, B)))), NAT), "give", app(NAT, B, fun(NAT, app(A, NAT))))
        # What is given is raised by the binders above it there.
        itself(self, EMPTY, app(fun(K, fun(A, app(B, A, C))), app(A, B)), "give", fun(app(A, B), app(app(B, C), A, B)))

    def test_the_saying_of_the_binder_is_not_looked_at(self):
        itself(self, EMPTY, app(fun(("name", "gone"), A), K), "give", K)

    def test_of_several_terms_the_first_one_goes(self):
        term = app(fun(K, fun(K, B)), NAT, ZERO)
        stays(self, EMPTY, term)
        self.assertEqual(steps(EMPTY, term), [((0,), "give", app(fun(K, NAT), ZERO))])

    def test_what_is_no_app_of_a_fun(self):
        for term in [app(every(K, A), NAT), fun(K, A), app(A, fun(K, A)), app(app(A, fun(K, A)), K), ("self", fun(K, A), K),
                     ("same", fun(K, A), K, K), ("put", fun(K, A), K, K)]:
            stays(self, EMPTY, term)


class Mean(unittest.TestCase):
    ground = Ground([("mean", "two", NAT, number(2)), ("hold", "axiom", K), NATS, ("mean", "three", K, ("name", "two"))])

    def test_by_hand(self):
        itself(self, self.ground, ("name", "two"), "mean", number(2))
        itself(self, self.ground, ("name", "three"), "mean", ("name", "two"))

    def test_other_names(self):
        for term in [("name", "axiom"), ("name", "nat"), ("name", "gone"), ("thing", "two"), ("maker", "two", 0)]:
            stays(self, self.ground, term)
        stays(self, EMPTY, ("name", "two"))

    def test_what_it_means_is_put_as_it_stands(self):
        ground = Ground([("mean", "odd", K, app(fun(K, A), at(3)))])
        itself(self, ground, ("name", "odd"), "mean", app(fun(K, A), at(3)))


class Self(unittest.TestCase):
    def test_by_hand(self):
        itself(self, EMPTY, ("put", A, ("self", B, C), at(3)), "self", at(3))
        itself(self, EMPTY, ("put", fun(K, A), ("self", K, NAT), ("put", A, B, C)), "self", ("put", A, B, C))

    def test_what_is_put_by_no_self(self):
        for other in [A, ("same", A, B, C), fun(K, ("self", A, B)), app(("self", A, B), C)]:
            stays(self, EMPTY, ("put", A, other, C))
        stays(self, EMPTY, ("put", ("self", A, B), C, ("self", A, B)))
        stays(self, EMPTY, ("self", A, B))


class Eat(unittest.TestCase):
    def test_numbers(self):
        for height in range(6):
            itself(self, GROUND, feed(height, A, B, C, ZERO), "eat", B)
            head = app(("eater", "nat", height), A, B, C)
            itself(self, GROUND, app(head, app(SUCC, at(5))), "eat", app(C, at(5), app(head, at(5))))

    def test_without_own_arguments(self):
        itself(self, GROUND, app(("eater", "bool", 0), A, B, C, YES), "eat", B)
        itself(self, GROUND, app(("eater", "bool", 0), A, B, C, NO), "eat", C)
        itself(self, GROUND, app(("eater", "code", 2), A, B, C, app(("maker", "code", 0), K)), "eat", app(B, K))

    def test_several_own_arguments(self):
        head = app(("eater", "code", 0), A, B, C)
        made = app(("maker", "code", 1), at(7), at(8))
        itself(self, GROUND, app(head, made), "eat", app(C, at(7), at(8), app(head, at(7)), app(head, at(8))))

    def test_bounds_of_the_eater(self):
        # The maker's own bounds (9 here) are left aside.
        head = app(("eater", "list", 1), at(4), A, B, C)
        itself(self, GROUND, app(head, app(NIL, at(9))), "eat", B)
        itself(self, GROUND, app(head, app(MORE, at(9), at(5), at(6))), "eat", app(C, at(5), at(6), app(head, at(6))))

    def test_a_saying_between(self):
        # The bounds are 4 and 5 (f); the maker's x is 7, its g 8: fun of (f x) of what is told of (g y).
        head = app(("eater", "tree", 0), at(4), at(5), at(2), at(3))
        inner = app(("eater", "tree", 0), at(5), at(6), at(3), at(4))
        told = fun(app(at(5), at(7)), app(inner, app(at(9), A)))
        made = app(NODE, K, NAT, at(7), at(8))
        itself(self, GROUND, app(head, made), "eat", app(at(3), at(7), at(8), told))

    def test_a_saying_between_without_bounds(self):
        head = app(("eater", "ord", 3), A, B, C, at(3))
        inner = app(("eater", "ord", 3), B, C, at(3), at(4))
        itself(self, GROUND, app(head, app(("maker", "ord", 1), at(7))), "eat", app(C, at(7), app(head, at(7))))
        itself(self, GROUND, app(head, app(("maker", "ord", 2), at(7))), "eat",
               app(at(3), at(7), fun(NAT, app(inner, app(at(8), A)))))

    def test_sayings_between_that_mean_one_another(self):
        # Bounds k 10, f 11; P 12; the steps 13, 14, 15; x 20, g 21, w 22.
        head = app(("eater", "wide", 0), *[at(place) for place in range(10, 16)])
        once = app(("eater", "wide", 0), *[at(place) for place in range(11, 17)])
        twice = app(("eater", "wide", 0), *[at(place) for place in range(12, 18)])
        # Of g: f x, then that y is itself, then what is told of (g y z).
        of_more = fun(app(at(11), at(20)), fun(("same", app(at(12), at(21)), A, A), app(twice, app(at(23), B, A))))
        of_last = fun(at(10), app(once, app(at(23), A)))
        made = app(("maker", "wide", 1), NAT, ZERO, at(20), at(21), at(22))
        itself(self, GROUND, app(head, made), "eat", app(at(14), at(20), at(21), at(22), of_more, of_last))
        made = app(("maker", "wide", 2), NAT, ZERO, at(20), at(21))
        itself(self, GROUND, app(head, made), "eat", app(at(15), at(20), at(21), app(head, at(21))))
        itself(self, GROUND, app(head, app(("maker", "wide", 0), NAT, ZERO)), "eat", at(13))

    def test_terms_with_binders_are_raised(self):
        motive, step = fun(NAT, A), fun(NAT, fun(A, app(B, A, C)))
        bounds = [fun(K, B), fun(A, app(A, B))]
        head = app(("eater", "tree", 0), *bounds, motive, step)
        raised = app(("eater", "tree", 0), fun(K, C), fun(B, app(A, C)), fun(NAT, A), fun(NAT, fun(A, app(B, A, at(3)))))
        made = app(NODE, A, A, fun(B, app(A, B)), fun(K, C))
        own = fun(app(bounds[1], fun(B, app(A, B))), app(raised, app(fun(K, at(3)), A)))
        itself(self, GROUND, app(head, made), "eat", app(step, fun(B, app(A, B)), fun(K, C), own))

    def test_one_term_less_or_more(self):
        for given in ([B, C, ZERO], [A, B, C, K, ZERO], [A, B, ZERO], [ZERO], [A, B, C], []):
            stays(self, GROUND, app(("eater", "nat", 0), *given))
        term = app(feed(0, A, B, C, ZERO), K)
        stays(self, GROUND, term)
        self.assertEqual(steps(GROUND, term), [((0,), "eat", app(B, K))])
        stays(self, GROUND, app(("eater", "list", 0), A, B, C, app(NIL, A)))
        stays(self, GROUND, app(("eater", "list", 0), A, A, A, B, C, app(NIL, A)))

    def test_a_maker_given_one_term_less_or_more(self):
        for made in [SUCC, app(SUCC, A, A), app(ZERO, A), app(("maker", "nat", 0), K, K)]:
            stays(self, GROUND, feed(0, A, B, C, made))
        for made in [NIL, app(NIL, A, B), app(MORE, A, B), app(MORE, A, B, C, A)]:
            stays(self, GROUND, app(("eater", "list", 0), A, A, B, C, made))

    def test_a_makers_number_that_is_none(self):
        for many in (2, 3, 10 ** 29):
            stays(self, GROUND, feed(0, A, B, C, ("maker", "nat", many)))
            stays(self, GROUND, feed(0, A, B, C, app(("maker", "nat", many), A)))
        stays(self, GROUND, app(("eater", "none", 0), A, ("maker", "none", 0)))

    def test_another_thing(self):
        stays(self, GROUND, feed(0, A, B, C, YES))
        stays(self, GROUND, app(("eater", "bool", 0), A, B, C, ZERO))
        ground = Ground([("mean", "nat", K, K), ("hold", "bool", K)])
        for name in ("nat", "bool", "gone"):
            stays(self, ground, app(("eater", name, 0), A, B, C, ("maker", name, 0)))
        stays(self, EMPTY, feed(0, A, B, C, ZERO))

    def test_what_is_no_maker(self):
        for last in [A, NAT, ("name", "plus"), ("eater", "nat", 0), fun(NAT, ZERO), ("self", NAT, ZERO), K,
                     app(fun(NAT, A), ZERO), app(A, ZERO)]:
            stays(self, GROUND, feed(0, A, B, C, last))

    def test_what_is_no_eater(self):
        for head in [A, NAT, SUCC, ("name", "plus"), K, ("thing", "none")]:
            stays(self, GROUND, app(head, A, B, C, ZERO))

    def test_a_thing_that_grows_otherwise(self):
        me = ("thing", "me")
        ground = Ground([("thing", "me", 0, (), ((every(me, me), me),))])
        head = app(("eater", "me", 0), A, B)
        # The first argument is no own one.
        itself(self, ground, app(head, app(("maker", "me", 0), C, at(3))), "eat", app(B, C, at(3), app(head, at(3))))


REDEX, ENDED = app(fun(K, A), B), B


class Steps(unittest.TestCase):
    def test_in_each_part(self):
        for word, many in [("all", 2), ("fun", 2), ("app", 2), ("same", 3), ("self", 2), ("put", 3)]:
            for place in range(many):
                around = [K] * many
                around[place] = REDEX
                told = list(around)
                told[place] = ENDED
                self.assertEqual(steps(EMPTY, (word, *around)), [((place,), "give", (word, *told))])
                self.assertEqual(stepped(EMPTY, (word, *around), (place,)), (word, *told))

    def test_under_binders(self):
        term = every(K, fun(A, every(B, app(fun(C, app(A, B, at(4))), app(A, B)))))
        told = every(K, fun(A, every(B, app(app(A, B), A, at(3)))))
        self.assertEqual(steps(EMPTY, term), [((1, 1, 1), "give", told)])

    def test_in_the_order_of_the_spots(self):
        inner = app(fun(K, A), ("name", "some"))
        ground = Ground([("mean", "some", K, K)])
        put = ("put", inner, ("self", ("name", "some"), K), REDEX)
        term = app(fun(inner, app(A, REDEX)), put)
        # app(fun(a, b), x): itself, then a by give and by mean, then b, then the put itself, its p, e and x.
        b_told = app(A, ENDED)
        self.assertEqual(steps(ground, term), [
            ((), "give", app(put, app(fun(K, A), A))),
            ((0, 0), "give", app(fun(("name", "some"), app(A, REDEX)), put)),
            ((0, 0, 1), "mean", app(fun(app(fun(K, A), K), app(A, REDEX)), put)),
            ((0, 1, 1), "give", app(fun(inner, b_told), put)),
            ((1,), "self", app(fun(inner, app(A, REDEX)), REDEX)),
            ((1, 0), "give", app(fun(inner, app(A, REDEX)), ("put", ("name", "some"), put[2], REDEX))),
            ((1, 0, 1), "mean", app(fun(inner, app(A, REDEX)), ("put", app(fun(K, A), K), put[2], REDEX))),
            ((1, 1, 0), "mean", app(fun(inner, app(A, REDEX)), ("put", inner, ("self", K, K), REDEX))),
            ((1, 2), "give", app(fun(inner, app(A, REDEX)), ("put", inner, put[2], ENDED))),
        ])

    def test_none(self):
        for term in [*LEAVES, every(A, B), fun(A, app(B, A)), ("self", A, B), ("put", A, B, C)]:
            self.assertEqual(steps(EMPTY, term), [])

    def test_the_kinds_of_what_is_told(self):
        told = steps(EMPTY, REDEX)
        self.assertIs(told.__class__, list)
        self.assertIs(told[0].__class__, tuple)
        told.append("spoiled")
        self.assertEqual(steps(EMPTY, REDEX), [((), "give", B)])

    def test_stepped_at_each_of_them(self):
        for _, term, _ in Goods(31).many(60, 4):
            told = steps(GROUND, term)
            self.assertEqual([spot for spot, _, _ in told], sorted({spot for spot, _, _ in told}))
            for spot, _, made in told:
                self.assertEqual(stepped(GROUND, term, spot), made)
                # The rest stays.
                self.assertEqual(with_part(term, spot, part_of(made, spot)), made)

    def test_against_the_plain_reckoning(self):
        maker = Maker(32)
        for _ in range(200):
            term = by_places(maker.term(("ra", "rb")), ("ra", "rb"))
            self.assertEqual(steps(GROUND, term), plain.steps(GROUND, term))
        for _, term, _ in Goods(33).many(100, 4):
            self.assertEqual(steps(GROUND, term), plain.steps(GROUND, term))

    def test_eaters_against_the_plain_reckoning(self):
        maker = Maker(34)
        for row in (NATS, NONE, BOOL, LIST, TREE, ORDS, WIDE, CODES):
            for many in range(len(row[4]) + 1):
                arguments = len(row[4][many]) if many < len(row[4]) else 1
                for more in (0, 0, 0, -1, 1):
                    for less in (0, 0, 0, -1, 1):
                        some = self.terms(maker, len(row[3]) + arguments + less)
                        given = self.terms(maker, len(row[3]) + len(row[4]) + 1 + more)
                        term = app(("eater", row[1], 2), *given, app(("maker", row[1], many), *some))
                        told = plain.steps(GROUND, term)
                        self.assertEqual(steps(GROUND, term), told)
                        goes = more == 0 and len(some) == len(row[3]) + arguments and many < len(row[4])
                        self.assertEqual(bool(told) and told[0][:2] == ((), "eat"), goes, term)

    def terms(self, maker, many):
        return [by_places(maker.term(("ra", "rb"), 2), ("ra", "rb")) for _ in range(many)]

    def test_by_names(self):
        self.assertEqual(steps(term=REDEX, ground=EMPTY), [((), "give", B)])
        self.assertEqual(stepped(spot=(), term=REDEX, ground=EMPTY), B)


class Refused(unittest.TestCase):
    def test_no_ground(self):
        for thing in NO_GROUNDS:
            refused(self, NoGround, thing, steps, thing, REDEX)
            refused(self, NoGround, thing, steps, thing, ("at",))
            refused(self, NoGround, thing, stepped, thing, REDEX, ())
            refused(self, NoGround, thing, stepped, thing, ["at"], [0])

    def test_no_term(self):
        for thing in NO_TERMS:
            refused(self, NoTerm, thing, steps, EMPTY, thing)
            refused(self, NoTerm, thing, stepped, EMPTY, thing, ())
            refused(self, NoTerm, thing, stepped, EMPTY, thing, [0])

    def test_no_step(self):
        term = app(REDEX, fun(K, REDEX))
        for thing in [*NOTHINGS, 0, (-1,), (True,), ("0",), (None,), ((0,),), [0], "0", {0: 0}]:
            refused(self, NoStep, thing, stepped, EMPTY, term, thing)
        for spot in [(2,), (0, 2), (0, 0, 1, 0), (10 ** 29,), (0,) * 60, (), (1,), (0, 0), (0, 1), (1, 0), (1, 1, 0)]:
            refused(self, NoStep, spot, stepped, EMPTY, term, spot)
        self.assertEqual(stepped(EMPTY, term, (0,)), app(B, fun(K, REDEX)))
        self.assertEqual(stepped(EMPTY, term, (1, 1)), app(REDEX, fun(K, B)))
        for term in [*LEAVES, *[term for term in TERMS if term[0] != "put"]]:
            spot = ()
            refused(self, NoStep, spot, stepped, EMPTY, term, spot)


if __name__ == "__main__":
    unittest.main()
