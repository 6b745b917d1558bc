"""Points 8, 36, 42 and 54: the kernel, the second checker and the plain reckoning held against one another."""

import random
import unittest
from itertools import product
from kernelpapers.errors import NoPaper
from kernelpapers.grounds import Ground
from kernelpapers.kernel import saying_of, settles, unsound_room
from kernelpapers.steps import told_way, worked
from kernelpapers.worths import Worth, giver, saying_by_worths, worked_by_worths
import plain
from goods import BOOL, GROUND, LEAVES, Goods, all_spots, number, spoiled, with_part
from samples import A, B, C, K, NAT, NATS, NONE, SUCC, ZERO, Maker, app, at, by_places, every, fun


def told(checker, *given):
    """What a checker says: a saying, or the spot and the word."""
    try:
        return checker(*given)
    except (NoPaper, plain.Fails) as fault:
        return "fails", fault.spot, fault.why


class Agree(unittest.TestCase):
    def agree(self, ground, room, term):
        """All three say the same; told is what they say."""
        by_steps = told(saying_of, ground, room, term)
        self.assertEqual(by_steps, told(saying_by_worths, ground, room, term), term)
        self.assertEqual(by_steps, told(plain.saying, ground, room, term), term)
        return by_steps

    def test_good_terms(self):
        for room, term, saying in Goods(54).many(250, 4):
            self.assertIsNone(unsound_room(GROUND, room))
            self.assertEqual(self.agree(GROUND, room, term), saying)
            self.assertTrue(settles(GROUND, room, term, saying))

    def test_good_terms_of_which_one_part_is_put_otherwise(self):
        chance = random.Random(55)
        whys = {}
        for room, term, _ in Goods(55).many(150, 4):
            for _ in range(6):
                said = self.agree(GROUND, room, spoiled(chance, term))
                why = said[2] if said[0] == "fails" else "good"
                whys[why] = whys.get(why, 0) + 1
        for why in ("good", "unlike", "all", "kind", "name", "place", "maker", "height"):
            self.assertGreater(whys.get(why, 0), 2, whys)

    def test_two_parts_put_otherwise(self):
        chance = random.Random(56)
        for room, term, _ in Goods(56).many(120, 4):
            for _ in range(3):
                self.agree(GROUND, room, spoiled(chance, spoiled(chance, term)))

    def test_a_paper_turned_at_each_spot(self):
        for room, term, saying in Goods(57).many(4, 4):
            for spot in all_spots(term):
                for other in (NAT, ZERO, at(9), ("kind", 5)):
                    turned = with_part(term, spot, other)
                    said = told(saying_of, GROUND, room, turned)
                    self.assertEqual(said, told(saying_by_worths, GROUND, room, turned))
                    self.assertIs(settles(GROUND, room, turned, saying), said == saying)
                    if said[0] != "fails":
                        self.assertTrue(settles(GROUND, room, turned, said))

    def test_all_small_terms(self):
        ground = Ground([NATS, NONE, ("mean", "two", NAT, number(2)), ("hold", "fact", ("same", NAT, ZERO, number(1)))])
        leaves = [A, B, K, ("kind", 5), NAT, ZERO, SUCC, ("thing", "none"), ("maker", "none", 0), ("eater", "none", 1),
                  ("name", "two"), ("name", "fact"), ("name", "gone")]
        room = [NAT, ("same", NAT, A, number(2))]
        pairs = [(word, *two) for word in ("all", "fun", "app", "self") for two in product(leaves, leaves)]
        threes = [(word, *three) for word in ("same", "put") for three in product(leaves, leaves, leaves)]
        good = []
        for term in [*leaves, *pairs, *threes]:
            if self.agree(ground, room, term)[0] != "fails":
                good.append(term)
        self.assertGreater(len(good), 60)
        chance = random.Random(58)
        for word, many in [("all", 2), ("fun", 2), ("app", 2), ("self", 2), ("same", 3), ("put", 3)]:
            for _ in range(300):
                self.agree(ground, room, (word, *[chance.choice(good) for _ in range(many)]))

    def test_all_small_puts(self):
        # What a put is made of is seldom good by chance; so all parts here are good ones of some use to it.
        room = [NAT, NAT, ("same", NAT, B, A), K, ("same", K, A, NAT)]
        tells = [fun(NAT, NAT), fun(NAT, K), fun(NAT, ("same", NAT, A, at(5))), fun(NAT, ("same", NAT, at(5), A)), fun(K, A),
                 fun(NAT, ZERO), SUCC, NAT, fun(K, K), ("name", "family"), fun(app(fun(K, A), NAT), NAT)]
        sides = [C, A, ("self", NAT, at(4)), ("self", K, NAT), app(("name", "belief"), at(4)), ("same", NAT, ZERO, ZERO), ZERO]
        ends = [ZERO, ("self", NAT, at(4)), ("self", NAT, at(3)), NAT, B, number(1), fun(NAT, A)]
        good = 0
        for tell, side, end in product(tells, sides, ends):
            good += self.agree(GROUND, room, ("put", tell, side, end))[0] != "fails"
        self.assertGreater(good, 15)

    def test_any_terms(self):
        maker = Maker(59)
        for _ in range(400):
            term = by_places(maker.term(("ra", "rb"), 3), ("ra", "rb"))
            self.agree(GROUND, [K, A], term)

    def test_leaves(self):
        for leaf in LEAVES:
            self.agree(GROUND, [K, A, every(B, K), app(A, B)], leaf)


class WorkedOut(unittest.TestCase):
    def test_by_steps_and_by_worths(self):
        gone = 0
        for room, term, saying in Goods(60).many(300, 4):
            if room:
                continue
            way, end = plain.told_way(GROUND, term)
            self.assertEqual(told_way(GROUND, term), way)
            self.assertEqual(worked(GROUND, term), end)
            self.assertEqual(worked_by_worths(GROUND, term), end)
            worth = Worth(GROUND, term)
            self.assertEqual((worth.term(), worth.saying()), (end, saying))
            gone += len(way) > 3
        self.assertGreater(gone, 15)

    def test_what_comes_of_an_app(self):
        goods = Goods(61)
        for _ in range(40):
            one = goods.worked(goods.kind(0, [], 1))
            told_of = goods.worked(goods.kind(0, [one], 1))
            try:
                term, other = goods.term([], every(one, told_of), 3), goods.term([], one, 3)
            except Exception as fault:
                self.assertEqual(fault.__class__.__name__, "NoGood")
                continue
            whole = app(term, other)
            self.assertEqual(giver(GROUND, term)(other), worked(GROUND, whole))
            worth = Worth(GROUND, term).to(Worth(GROUND, other))
            self.assertEqual(worth, Worth(GROUND, whole))
            self.assertEqual(worth.saying(), saying_of(GROUND, [], whole))

    def test_eaters_of_all_things(self):
        # Each maker of a small thing, eaten into a number that tells the maker and what is told of its own arguments.
        ground = Ground([NATS, BOOL, ("thing", "tri", 0, (), ((), (("thing", "tri"), ("thing", "tri")), (NAT, ("thing", "tri")))),
                         ("hold", "two", every(NAT, every(NAT, NAT)))])
        tri = ("thing", "tri")
        pair = ("name", "two")
        head = app(("eater", "tri", 0), fun(tri, NAT), ZERO, fun(tri, fun(tri, fun(NAT, fun(NAT, app(pair, B, A))))),
                   fun(NAT, fun(tri, fun(NAT, app(pair, C, A)))))
        terms = [(("maker", "tri", 0), ZERO)]
        for _ in range(2):
            terms += [(app(("maker", "tri", 1), one, other), app(pair, said, also))
                      for (one, said), (other, also) in product(terms[:5], terms[:5])]
            terms += [(app(("maker", "tri", 2), number(3), one), app(pair, number(3), said)) for one, said in terms[:5]]
        for term, end in terms:
            self.assertEqual(worked(ground, app(head, term)), end)
            self.assertEqual(worked_by_worths(ground, app(head, term)), end)


if __name__ == "__main__":
    unittest.main()
