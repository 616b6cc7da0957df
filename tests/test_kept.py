"""Points [5], [6], [52], [53], [54]: what is KEPT, what FALLS, what is SAFE."""

import unittest

from handsmade.alive import is_alive
from handsmade.bounds import MOST
from handsmade.deeds import deeds_at, done
from handsmade.kept import fallen_within, is_kept, is_safe, kept_within
from handsmade.known import Known
from handsmade.order import is_no_less
from handsmade.stands import full_stand, void_stand
from handsmade.strikes import strikes_at, struck
from handsmade.turns import turn_led, turns_of
from handsmade.webs import next_of, whole_web
from plain import all_stands, some_stands
from samples import ASKED, DRIPS, FALLING, MILL, NEEDY, PAIR, SLOW, SMALL, TINY, TWINS, changed, good_list, refusal
from webplain import pairs_from, rounds_from, safe_from, ways_from, web_from

LITTLE = (TINY, SMALL, ASKED, DRIPS, SLOW, NEEDY, FALLING)
LEAF = ("leaf", "a")
TOOL = ("tool", "a")


class Rounds(unittest.TestCase):
    def test_against_the_plainest_way(self):
        for plant in LITTLE + (PAIR,):
            stands = [full_stand(plant)] if plant == PAIR else some_stands(plant, 4)
            for stand in stands:
                heights, rounds = rounds_from(plant, stand)
                self.assertEqual(kept_within(plant, stand), tuple(sorted(heights.items())), stand)
                self.assertEqual(fallen_within(plant, stand), tuple(sorted(rounds.items())), stand)
                self.assertIs(is_kept(plant, stand), stand in heights)

    def test_none_kept(self):
        # What is void stays so; all falls at once.
        void = void_stand(SMALL)
        self.assertEqual(kept_within(SMALL, void), ())
        self.assertEqual(fallen_within(SMALL, void), ((void, 0),))
        self.assertIs(is_kept(SMALL, void), False)

    def test_by_hand(self):
        # A lone leaf, and two dark ones, fall at once: the foe takes what there is, or what is left can't agree.
        rounds = dict(fallen_within(SMALL, full_stand(SMALL)))
        self.assertEqual(rounds[((0,), ((2,),), 0, (), 1, 0)], 0)
        self.assertEqual(rounds[((1,), ((0, 0),), 0, (), 1, 0)], 0)
        self.assertEqual(sorted(set(rounds.values())), [0, 1, 2])
        heights = dict(kept_within(SMALL, full_stand(SMALL)))
        # Of three bright leaves two can be read at once, whichever is struck.
        self.assertEqual(heights[full_stand(SMALL)], (1, 1))
        # Of a leaf of light 2 and one of 1 the brighter may be struck: the other one is too few, but with some rest.
        self.assertNotIn(((0,), ((2, 1),), 0, (), 1, 0), heights)
        self.assertIn(((0,), ((2, 1),), 0, (), 1, 1), heights)
        # With a dark one more it is kept; the tool can't be had in the next beat, as no light is to be spent then.
        self.assertEqual(heights[((0,), ((2, 1, 0),), 0, (), 1, 0)], (1, 3))

    def test_together_they_are_the_web(self):
        for plant in LITTLE:
            stand = full_stand(plant)
            kept, fallen = kept_within(plant, stand), fallen_within(plant, stand)
            self.assertEqual(sorted([one for one, _ in kept] + [one for one, _ in fallen]),
                             list(whole_web(plant, stand)))
            for rows in (kept, fallen):
                self.assertIs(rows.__class__, tuple)
                self.assertEqual(rows, tuple(sorted(set(rows))))
            for _, heights in kept:
                self.assertEqual(len(heights), len(good_list(plant)))

    def test_of_each_sort(self):
        """Works in which some are kept, and such in which none are; many rounds."""
        told = {plant: (len(kept_within(plant, full_stand(plant))), fallen_within(plant, full_stand(plant)))
                for plant in LITTLE}
        self.assertEqual([told[plant][0] for plant in LITTLE], [0, 66, 124, 123, 180, 200, 0])
        self.assertEqual([max(n for _, n in told[plant][1]) for plant in LITTLE], [0, 2, 4, 2, 2, 2, 7])

    def test_of_two_kinds(self):
        stand = ((1, 1), ((2, 2), (2, 2)), 0, (), 1, 0)
        kept, fallen = kept_within(TWINS, stand), fallen_within(TWINS, stand)
        self.assertEqual((len(kept), len(fallen)), (397, 1596))
        self.assertIs(is_kept(TWINS, stand), True)
        self.assertEqual([len(heights) for _, heights in kept], [4] * 397)
        # A tool that asks another one is had a beat later where this isn't there.
        heights = dict(kept)
        self.assertEqual(heights[stand], (1, 1, 1, 2))

    def test_the_same_in_each_web(self):
        """[53]: HEIGHT and round are the same in each WEB that has the STAND."""
        for plant in (SMALL, ASKED, FALLING):
            heights = dict(kept_within(plant, full_stand(plant)))
            rounds = dict(fallen_within(plant, full_stand(plant)))
            for stand in whole_web(plant, full_stand(plant))[::11]:
                for there, row in kept_within(plant, stand):
                    self.assertEqual(heights[there], row)
                for there, number in fallen_within(plant, stand):
                    self.assertEqual(rounds[there], number)

    def test_how_one_falls(self):
        """[53]: from a FALLEN one some WAY leads, behind each TURN, to what fell sooner, or by the same GOOD."""
        for plant in (SMALL, ASKED, FALLING):
            rounds = dict(fallen_within(plant, full_stand(plant)))
            lacked = {(stand, good) for stand in rounds for good in good_list(plant)}
            grows = True
            # The greatest set of pairs of which each has such a WAY.
            while grows:
                gone = {
                    (stand, good) for stand, good in lacked if not any(
                        all(
                            there in rounds and (
                                rounds[there] < rounds[stand]
                                or (rounds[there] == rounds[stand] and (there, good) in lacked and good not in comes)
                            ) for there, comes in pairs_from(plant, place)
                        ) for place in ways_from(plant, stand).values()
                    )
                }
                lacked -= gone
                grows = bool(gone)
            self.assertEqual({stand for stand, _ in lacked}, set(rounds))

    def test_what_is_kept_is_alive(self):
        for plant in (SMALL, ASKED, DRIPS):
            for stand, heights in kept_within(plant, full_stand(plant))[::5]:
                self.assertTrue(is_alive(plant, stand))
                self.assertGreaterEqual(min(heights), 1)

    def test_more_never_harms(self):
        """(M2), [54]: what is NO LESS than a KEPT one is KEPT; HEIGHTS fall, rounds rise."""
        for plant in (SMALL, ASKED, NEEDY):
            heights = dict(kept_within(plant, full_stand(plant)))
            rounds = dict(fallen_within(plant, full_stand(plant)))
            stands = sorted(list(heights) + list(rounds))
            for stand in stands[::4]:
                for other in stands:
                    if is_no_less(other, stand):
                        if stand in heights:
                            self.assertTrue(all(a <= b for a, b in zip(heights[other], heights[stand])))
                        elif other in rounds:
                            self.assertGreaterEqual(rounds[other], rounds[stand])

    def test_no_more(self):
        for plant, stand in ((SMALL, full_stand(SMALL)), (TINY, full_stand(TINY)), (SMALL, void_stand(SMALL, rest=3))):
            many = len(web_from(plant, stand))
            for told in (kept_within, fallen_within, is_kept, is_safe):
                self.assertEqual(told(plant, stand, most=many), told(plant, stand))
                self.assertEqual(told(works=plant, stand=stand, most=many + 5), told(plant, stand))
                for most in (many - 1, 1 if many > 1 else 0, 0):
                    self.assertEqual(refusal(told, plant, stand, most=most), ("NoMore", most))
        for told in (kept_within, fallen_within, is_kept, is_safe):
            self.assertEqual(refusal(told, MILL, full_stand(MILL)), ("NoMore", MOST))
            with self.assertRaises(TypeError):
                told(SMALL, full_stand(SMALL), 2000)


class Safe(unittest.TestCase):
    def test_against_the_plainest_way(self):
        told = {True: 0, False: 0}
        for plant in (SMALL, ASKED, DRIPS, SLOW):
            for stand in some_stands(plant, 12):
                safe = is_safe(plant, stand)
                self.assertIs(safe, safe_from(plant, stand), stand)
                self.assertIs(safe, any(is_kept(plant, there) for there in next_of(plant, stand)))
                told[safe] += 1
        self.assertGreater(min(told.values()), 3)

    def test_struck_in_each_way(self):
        """[54]: a KEPT one, STRUCK in whichever WAY, is SAFE."""
        for plant in (SMALL, ASKED, DRIPS):
            known = Known(plant, MOST)
            for stand, _ in kept_within(plant, full_stand(plant)):
                self.assertTrue(known.is_safe(stand))
                for strike in strikes_at(plant, stand):
                    self.assertTrue(known.is_safe(struck(plant, stand, strike)), (stand, strike))

    def test_amid_a_beat(self):
        # Struck, two leaves are left: the brighter has to be copied. Whoever reads it for a tool, lays both together, or
        # copies it and breaks the copy has lost; all that is amid a beat.
        stand = struck(SMALL, ((1,), ((1, 1, 0),), 0, (), 1, 0), ("leaf", "a", 1))
        copied = done(SMALL, stand, ("copy", "a", 1))
        for there, safe in (
            (stand, True), (copied, True), (done(SMALL, stand, ("make", "a", 1)), False),
            (done(SMALL, stand, ("agree", "a", (1, 0))), False), (done(SMALL, copied, ("agree", "a", (0, 0))), True),
            (done(SMALL, copied, ("break", 0)), False),
        ):
            self.assertIs(is_safe(SMALL, there), safe)
            self.assertIs(is_safe(works=SMALL, stand=there, most=500), safe)
        # With a leaf more a tool may be made, and broken again, too.
        stand = struck(SMALL, ((1,), ((1, 1, 0),), 0, (), 1, 0), ("leaf", "a", 0))
        made = done(SMALL, stand, ("make", "a", 1))
        self.assertIs(is_safe(SMALL, made), True)
        self.assertIs(is_safe(SMALL, done(SMALL, made, ("break", 0))), True)
        self.assertIs(is_safe(SMALL, done(SMALL, made, ("make", "a", 1))), False)

    def test_a_deed_or_the_beat(self):
        """[54]: from a SAFE one the BEAT leads to a KEPT one, or some DEED to a SAFE one."""
        for plant in (SMALL, ASKED):
            known = Known(plant, MOST)
            for stand, _ in kept_within(plant, full_stand(plant))[::3]:
                for place in ways_from(plant, stand).values():
                    beat = turn_led(plant, place, ())[0]
                    deeds = [done(plant, place, deed) for deed in deeds_at(plant, place)]
                    self.assertTrue(known.is_kept(beat) or any(known.is_safe(there) for there in deeds))

    def test_more_never_harms(self):
        for plant in (SMALL, DRIPS):
            known = Known(plant, MOST)
            stands = some_stands(plant, 150)
            for stand in stands[::2]:
                for other in stands:
                    if known.is_safe(stand) and is_no_less(other, stand):
                        self.assertTrue(known.is_safe(other), (stand, other))

    def test_the_web_is_that_of_the_stand(self):
        """The WEB that is bounded is that of the STAND as if it were at the beginning of a beat."""
        stand = changed(full_stand(SMALL), 5, 3)
        many = len(whole_web(SMALL, stand))
        nexts = max(len(whole_web(SMALL, there)) for there in next_of(SMALL, stand))
        self.assertGreater(many, nexts)
        self.assertIs(is_safe(SMALL, stand, most=many), True)
        self.assertEqual(refusal(is_safe, SMALL, stand, most=many - 1), ("NoMore", many - 1))

    def test_a_turn_may_begin_anew(self):
        # Amid a beat, with a making that hampers, a TURN begins with a "break".
        plant = changed(SMALL, 6, 1)
        for stand in all_stands(plant)[::17]:
            ends = [turn_led(plant, stand, turn)[0] for turn in turns_of(plant, stand)]
            self.assertIs(is_safe(plant, stand), any(is_kept(plant, there) for there in ends))


class KnownOnes(unittest.TestCase):
    def test_what_is_known_is_the_same(self):
        """What one WEB told holds for others: in whatever order STANDS are asked about, all is told as by itself."""
        for plant in (SMALL, ASKED, NEEDY):
            stands = some_stands(plant, 60)
            for row in (stands, stands[::-1], stands[::2] + stands[1::2]):
                for counts_all in (True, False):
                    known = Known(plant, MOST, counts_all=counts_all)
                    for stand in row:
                        self.assertIs(known.is_kept(stand), stand in rounds_from(plant, stand)[0])

    def test_what_is_known_is_not_counted(self):
        full, rested = full_stand(SMALL), full_stand(SMALL, rest=3)
        most = len(web_from(SMALL, full))
        self.assertGreater(len(web_from(SMALL, rested)), most)
        for counts_all in (True, False):
            known = Known(SMALL, most, counts_all=counts_all)
            self.assertEqual(refusal(known.is_kept, rested), ("NoMore", most))
            self.assertIs(known.is_kept(full), True)
            self.assertEqual(refusal(known.is_kept, rested), ("NoMore", most) if counts_all else None)
        self.assertIs(known.is_kept(rested), True)

    def test_one_next_is_enough(self):
        """What is SAFE by a NEXT whose WEB has no more than most is told so, whatever the others have."""
        seen = set()
        for plant in (SMALL, DRIPS):
            for stand in some_stands(plant, 60):
                sizes = {there: len(web_from(plant, there)) for there in next_of(plant, stand)}
                kept = [there for there in sizes if there in rounds_from(plant, there)[0]]
                for most in {min(sizes.values()), max(sizes.values()), max(sizes.values()) - 1}:
                    safe = any(sizes[there] <= most for there in kept)
                    beyond = max(sizes.values()) > most
                    known = Known(plant, most)
                    told = refusal(known.is_safe, stand)
                    self.assertEqual(told, ("NoMore", most) if beyond and not safe else None, stand)
                    if told is None:
                        self.assertIs(known.is_safe(stand), safe)
                    seen.add((safe, beyond))
        self.assertEqual(seen, {(True, True), (True, False), (False, True), (False, False)})

    def test_counted_ones(self):
        for plant in (SMALL, DRIPS):
            stands = some_stands(plant, 40)
            sizes = {stand: len(web_from(plant, stand)) for stand in stands}
            for most in (20, 60, 100):
                known = Known(plant, most)
                for stand in stands:
                    told = refusal(known.is_kept, stand)
                    self.assertEqual(told, ("NoMore", most) if sizes[stand] > most else None, stand)


if __name__ == "__main__":
    unittest.main()
