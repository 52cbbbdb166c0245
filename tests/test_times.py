"""Times [10], beside going through the steps turn by turn."""

import itertools
import unittest
from fractions import Fraction

from builtahead.hands import is_stuck
from builtahead.times import (
    beat, begins, chain_apart, end_time, is_chain_apart, is_latencies, is_latencies_later, latencies_later, most_times,
    never_later,
)
from tests.tools import (
    call, check_examples, check_things, dice, made_of, names_for, raises, random_rows, random_waits, thing_variants,
)

EXAMPLES = """
    >>> one, other, both = [made_from("a; b | - | a; b | " + waits + " | a -; b - | a 0; b 1 | -") for waits in ("a b 0", "b a 0", "a b 0; b a 1")]
    >>> begins(both, 2, (("a", 0, 3), ("a", 1, 4), ("b", 0, 2))), end_time(both, 2, (("a", 0, 3), ("a", 1, 4), ("b", 0, 2)))
    ((('a', 0, 0), ('a', 1, 5), ('b', 0, 3), ('b', 1, 9)), 9)
    >>> never_later(one, other), never_later(one, both), is_latencies_later(one, other, (2, (("a", 0, 1), ("b", 1, 1)))), is_latencies_later(both, one, latencies_later(both, one))
    (False, True, True, True)
    >>> most_times(one, other), most_times(one, both), most_times(both, one), is_chain_apart(one, other, (("a", 0), ("b", 1))), [beat(made, (("a", 3), ("b", 5))) for made in (one, both)]
    (2, 1, 2, True, [(5, 1), (8, 1)])
    >>> never_later(made_from("a; b | - | a; b | a b 0; b a 0 | a -; b - | a 0; b 1 | -"), one)
    raises Stuck()
"""

STUCK = made_of((("a",), ("b",)), (("a", "b", 0), ("b", "a", 0)))
LOOSE = made_of((("a",), ("b",)), ())


def begins_by_hand(made, turns, latencies):
    """The begins, from the words of [10], each step asked for all that are straight ahead of it."""
    lasting = {(name, turn): number for name, turn, number in latencies}
    known = {}

    def begin(name, turn):
        if (name, turn) not in known:
            row = next(row for row in made[2] if name in row)
            at = row.index(name)
            ahead = [(row[at - 1], turn if at else turn - 1)]
            ahead += [(first, turn - number) for first, later, number in made[3] if later == name]
            ends = [begin(*step) + lasting.get(step, 0) for step in ahead if step[1] >= 0]
            known[name, turn] = max(ends, default=0)
        return known[name, turn]
    for turn in range(turns):
        for row in made[2]:
            for name in row:
                begin(name, turn)
    return known


def end_by_hand(made, turns, latencies):
    lasting = {(name, turn): number for name, turn, number in latencies}
    return max(begin + lasting.get(step, 0) for step, begin in begins_by_hand(made, turns, latencies).items())


def ahead_by_hand(made, turns):
    """The set of the pairs of steps of turns below a bound of which one goes ahead of the other one in each RUN."""
    found = set()
    steps = [(name, turn) for row in made[2] for name in row for turn in range(turns)]
    for step in steps:
        found |= {(step, later) for later, begin in begins_by_hand(made, turns, ((*step, 1),)).items() if begin == 1}
    return found


def most_by_hand(one, other, turns):
    """The greatest set of steps below a bound of turns, of each two one ahead by one, none by other; how many it has."""
    by_one, by_other = ahead_by_hand(one, turns), ahead_by_hand(other, turns)
    right = {pair for pair in by_one if pair not in by_other and pair[::-1] not in by_other}
    most = 1
    chains = [[step] for step in sorted({step for pair in by_one for step in pair})]
    while chains:
        most = len(chains[0])
        chains = [chain + [last] for chain in chains for first, last in right if first == chain[-1]
                  and all((step, last) in right for step in chain)]
    return most


def some(seed, count, names="abcd", far=2):
    """MADES that are not stuck."""
    rng = dice(seed)
    while count:
        names_here = list(names[:rng.randint(1, len(names))])
        made = made_of(random_rows(rng, names_here), random_waits(rng, names_here, 4, far))
        if not is_stuck(made[2], made[3]):
            count -= 1
            yield rng, made


def two(seed, count, far=2):
    """Two MADES, the names of the first ones of the second."""
    for rng, one in some(seed, count, "abcd", far):
        names = sorted({name for row in one[2] for name in row} | set(rng.choice(["", "", "e", "ef"])))
        other = STUCK
        while is_stuck(other[2], other[3]):
            other = made_of(random_rows(rng, names), random_waits(rng, names, 4, far))
        yield rng, one, other


def random_latencies(rng, made, turns, many=6):
    names = [name for row in made[2] for name in row]
    steps = {(rng.choice(names), rng.randrange(turns)) for _ in range(many)}
    return tuple((*step, rng.choice([0, 1, 2, 10 ** 30])) for step in sorted(steps))


class BeginsTest(unittest.TestCase):

    def test_turn_by_turn(self):
        for rng, made in some(40, 150):
            turns = rng.randint(1, 6)
            latencies = random_latencies(rng, made, turns, rng.randint(0, 8))
            known = begins_by_hand(made, turns, latencies)
            self.assertEqual(call(self, begins, made, turns, latencies), tuple((*step, known[step]) for step in sorted(known)))
            self.assertEqual(call(self, end_time, made, turns, latencies), end_by_hand(made, turns, latencies))

    def test_most_turns(self):
        made = made_of((("a", "b"), ("c",)), (("b", "c", 3), ("c", "a", 2)))
        latencies = tuple((name, turn, turn) for name in "abc" for turn in range(200))
        self.assertEqual(end_time(made, 200, latencies), end_by_hand(made, 200, latencies))
        self.assertEqual(end_time(made, 1, ()), 0)
        self.assertEqual(begins(made, 1, ()), (("a", 0, 0), ("b", 0, 0), ("c", 0, 0)))

    def test_stuck(self):
        raises(self, "Stuck()", begins, STUCK, 1, ())
        raises(self, "Stuck()", end_time, STUCK, 3, (("a", 0, 1),))
        raises(self, "Stuck()", beat, STUCK, (("a", 1), ("b", 1)))


class IsLatenciesTest(unittest.TestCase):

    def test_right_and_wrong(self):
        for made in (LOOSE, STUCK):
            for thing in [(), (("a", 0, 0),), (("a", 0, 1), ("a", 1, 0), ("b", 0, 10 ** 40)), (("b", 10 ** 40, 3),), (("a", 9, 0), ("b", 0, 0))]:
                self.assertIs(call(self, is_latencies, made, thing), True)
                self.assertIs(is_latencies(made, list(thing)), False)
            for thing in [
                (("c", 0, 0),), (("a", 0, 0), ("a", 0, 1)), (("a", 0, 0), ("a", 0, 0)), (("b", 0, 0), ("a", 0, 0)),
                (("a", -1, 0),), (("a", 0, -1),), (("a", 0),), (("a", 0, 0, 0),), (("a", 10, 0), ("a", 9, 0)), (("a", True, 0),),
                (("a", 0, False),), (["a", 0, 0],), (("a", "0", 0),), ("a", 0, 0), (((), 0, 0),), ((["a"], 0, 0),), (("a", 0, ()),),
            ]:
                self.assertIs(is_latencies(made, thing), False, thing)
        for thing in thing_variants((("a", 1, 0), ("b", 0, 1))):
            right = ["(('b', 0, 1),)", "(('a', 1, 0),)"]
            self.assertIs(is_latencies(LOOSE, thing), repr(thing) in right, thing)

    def test_odd_things(self):
        check_things(self, is_latencies, (LOOSE,), lambda thing: repr(thing) in ["()", "(('a', 0, 0),)"])


class TwoTest(unittest.TestCase):

    def test_beside_all_steps(self):
        found = {}
        for rng, one, other in two(41, 120):
            most = call(self, most_times, one, other)
            found[most] = found.get(most, 0) + 1
            self.assertEqual(most, most_by_hand(one, other, 8))
            self.assertIs(call(self, never_later, one, other), most == 1)
            self.check_latencies(rng, one, other, most)
            self.check_chain(rng, one, other, most)
        self.assertEqual(sorted(found), [1, 2, 3])

    def check_latencies(self, rng, one, other, most):
        thing = call(self, latencies_later, one, other)
        self.assertIs(thing is None, most == 1)
        self.assertIs(call(self, is_latencies_later, one, other, thing), most > 1)
        if thing is not None:
            self.assertGreater(end_by_hand(one, *thing), end_by_hand(other, *thing))
            for variant in thing_variants(thing):
                right = isinstance(variant, tuple) and len(variant) == 2 and type(variant[0]) is int
                right = right and 1 <= variant[0] <= 200 and is_latencies(one, variant[1])
                right = right and all(turn < variant[0] for _, turn, _ in variant[1])
                right = right and end_by_hand(one, *variant) > end_by_hand(other, *variant)
                self.assertIs(is_latencies_later(one, other, variant), right)
        for _ in range(8):
            turns = rng.randint(1, 5)
            latencies = random_latencies(rng, one, turns)
            first, last = end_by_hand(one, turns, latencies), end_by_hand(other, turns, latencies)
            self.assertLessEqual(first, most * last)
            self.assertIs(is_latencies_later(one, other, (turns, latencies)), first > last)

    def check_chain(self, rng, one, other, most):
        chain = call(self, chain_apart, one, other)
        self.assertEqual(len(chain), most)
        self.assertIs(call(self, is_chain_apart, one, other, chain), True)
        turns = max(turn for _, turn in chain) + 1
        by_one, by_other = ahead_by_hand(one, max(4, turns)), ahead_by_hand(other, max(4, turns))
        # By a latency of 1 for each step of the chain the END is just so many times that of other.
        latencies = tuple((*step, 1) for step in chain)
        self.assertEqual((end_by_hand(one, turns, latencies), end_by_hand(other, turns, latencies)), (most, 1))
        names = sorted(name for row in one[2] for name in row)
        things = list(itertools.combinations([(name, turn) for name in names for turn in range(4)], min(2, most)))
        for thing in rng.sample(things, min(20, len(things))):
            right = len(thing) == most and all(
                ((p, q) in by_one or (q, p) in by_one) and (p, q) not in by_other and (q, p) not in by_other
                for p, q in itertools.combinations(thing, 2)
            )
            self.assertIs(is_chain_apart(one, other, thing), right, thing)
            self.assertIs(is_chain_apart(one, other, list(thing)), False)
        self.assertIs(is_chain_apart(one, other, chain[::-1]), most == 1)
        self.assertIs(is_chain_apart(one, other, chain + chain), False)

    def test_edges(self):
        one = made_of((("a",), ("b",)), (("a", "b", 0),))
        self.assertIs(is_chain_apart(one, LOOSE, (("a", 0), ("b", 10 ** 40))), True)
        self.assertIs(is_chain_apart(one, LOOSE, (("a", 1), ("b", 0))), False)
        self.assertIs(is_chain_apart(one, LOOSE, (("a", False), ("b", 1))), False)
        self.assertIs(is_chain_apart(one, LOOSE, (("a", 0), ("c", 1))), False)
        self.assertIs(is_chain_apart(one, LOOSE, (("a", 0),)), False)
        self.assertIs(is_chain_apart(one, one, (("c", 0),)), False)
        self.assertIs(is_chain_apart(one, one, (("b", 10 ** 40),)), True)
        self.assertIs(is_latencies_later(one, LOOSE, (200, (("a", 0, 1), ("b", 199, 1)))), True)
        self.assertIs(is_latencies_later(one, LOOSE, (201, (("a", 0, 1), ("b", 199, 1)))), False)
        self.assertIs(is_latencies_later(one, LOOSE, (199, (("a", 0, 1), ("b", 199, 1)))), False)
        self.assertIs(is_latencies_later(one, LOOSE, (1, (("a", 0, 1), ("a", 1, 0), ("b", 0, 1)))), False)
        self.assertIs(is_latencies_later(one, LOOSE, (2, (("a", 0, 1), ("a", 1, 0), ("b", 0, 1)))), True)
        self.assertIs(is_latencies_later(one, LOOSE, (0, ())), False)
        self.assertIs(is_latencies_later(one, LOOSE, (True, (("a", 0, 1), ("b", 0, 1)))), False)
        self.assertIs(is_latencies_later(one, LOOSE, (1, (("a", 0, 1), ("b", 0, 1)))), True)
        far = made_of((("a",), ("b",)), (("a", "b", 16),))
        self.assertEqual(latencies_later(far, LOOSE)[0], 17)

    def test_apart_in_the_next_turn_alone(self):
        one = made_of((("a",), ("b",)), (("a", "b", 0),))
        other = made_of((("a",), ("b",)), (("a", "b", 2), ("b", "a", 0)))
        self.assertEqual((most_times(one, other), chain_apart(one, other)), (2, (("a", 0), ("b", 1))))
        self.assertEqual(latencies_later(one, other)[0], 2)
        nearer = made_of((("a",), ("b",)), (("a", "b", 1), ("b", "a", 0)))
        self.assertEqual((most_times(one, nearer), never_later(one, nearer)), (1, True))

    def test_three_times(self):
        one = made_of((("a", "b", "c"),), ())
        other = made_of((("a",), ("b",), ("c",)), ())
        self.assertEqual((most_times(one, other), most_times(other, one)), (3, 1))
        for thing, right in [
            ((("a", 0), ("b", 0), ("c", 0)), True), ((("a", 5), ("b", 4), ("c", 9)), True), ((("a", 0), ("a", 1), ("b", 0)), False),
            ((("a", 0), ("c", 0)), False), ((("b", 0), ("a", 0), ("c", 0)), False),
        ]:
            self.assertIs(is_chain_apart(one, other, thing), right)

    def test_odd_things(self):
        one = made_of((("a",), ("b",)), (("a", "b", 0),))
        check_things(self, is_latencies_later, (one, LOOSE), lambda thing: False)
        check_things(self, is_chain_apart, (one, LOOSE), lambda thing: False)
        check_things(self, is_chain_apart, (one, one), lambda thing: repr(thing) == "(('a', 0),)")

    def test_stuck_ahead_of_no_name(self):
        less = made_of((("b",),), ())
        for function, more in (
            (never_later, ()), (latencies_later, ()), (is_latencies_later, (None,)), (most_times, ()), (chain_apart, ()),
            (is_chain_apart, (None,)),
        ):
            raises(self, "Stuck()", function, STUCK, less, *more)
            raises(self, "Stuck()", function, less, STUCK, *more)
            raises(self, "Stuck()", function, made_of((("z", "b"),), ()), STUCK, *more)
            raises(self, "NoName(name='a')", function, LOOSE, less, *more)
            raises(self, "NoName(name='aa')", function, made_of((("b", "zz"), ("aa",)), ()), less, *more)
            call(self, function, less, LOOSE, *more)


class BeatTest(unittest.TestCase):

    def test_beside_all_rings(self):
        for rng, made in some(42, 250):
            names = sorted(name for row in made[2] for name in row)
            rates = tuple((name, rng.choice([0, 1, 2, 3, 7, 10 ** 30])) for name in names)
            top, bottom = call(self, beat, made, rates)
            expected = self.beat_by_hand(made, dict(rates))
            self.assertEqual((top, bottom), (expected.numerator, expected.denominator))

    def beat_by_hand(self, made, rates):
        least = {}
        for row in made[2]:
            for first, later, number in [(a, b, 0) for a, b in zip(row, row[1:])] + [(row[-1], row[0], 1) for _ in row[:1]]:
                least[first, later] = min(number, least.get((first, later), number))
        for first, later, number in made[3]:
            least[first, later] = min(number, least.get((first, later), number))
        best = Fraction(0)
        for many in range(1, len(rates) + 1):
            for ring in itertools.permutations(rates, many):
                pieces = list(zip(ring, ring[1:] + ring[:1]))
                if all(piece in least for piece in pieces):
                    best = max(best, Fraction(sum(rates[name] for name in ring), sum(least[piece] for piece in pieces)))
        return best

    def test_edges(self):
        self.assertEqual(call(self, beat, LOOSE, (("a", 0), ("b", 0))), (0, 1))
        waits = (("a", "b", 0), ("b", "a", 2))
        self.assertEqual(beat(made_of((("a",), ("b",)), waits), (("a", 3), ("b", 4))), (4, 1))
        waits = (("a", "b", 1), ("b", "c", 0), ("c", "a", 1))
        self.assertEqual(beat(made_of((("a",), ("b",), ("c",)), waits), (("a", 3), ("b", 3), ("c", 3))), (9, 2))

    def test_the_end_grows_so(self):
        made = made_of((("a",), ("b",), ("c",)), (("a", "b", 1), ("b", "c", 0), ("c", "a", 1)))
        ends = [end_time(made, turns, tuple((name, turn, 3) for name in "abc" for turn in range(turns))) for turns in (100, 120)]
        self.assertEqual(ends[1] - ends[0], 90)


class ExamplesTest(unittest.TestCase):

    def test_examples(self):
        check_examples(self, EXAMPLES, names_for("times"))


if __name__ == "__main__":
    unittest.main()
