"""Walkers on tracks ([32] to [36])."""

import unittest
from random import Random

from arrowcells.runs import run
from arrowcells.stores import Store, read_store
from arrowcells.walkers import doubling_steps, meet, meeting_place, meets_always, missed_track, stop_at, track_of
from arrowcells.ways import way
from tests.helpers import STORE, Asking, odd_values, some_stores

HUGE = 10 ** 30
NO_NUMBERS = [HUGE + 1, 10 ** 99, -1, -HUGE]
CHASE = "x = next x; y = next y; y = next y; while x != y { x = next x; y = next y; y = next y }"


def walked(tail, ring, steps):
    """The stop after so many steps, one by one."""
    stop = 0
    for _ in range(steps):
        stop = tail if stop == tail + ring - 1 else stop + 1
    return stop


def naive_meet(tail, ring, slow, fast, lead):
    """The least turn, step by step; after so many turns everything has come round."""
    first, second = 0, walked(tail, ring, lead)
    for turn in range(1, tail + 2 * ring + 2):
        for _ in range(slow):
            first = tail if first == tail + ring - 1 else first + 1
        for _ in range(fast):
            second = tail if second == tail + ring - 1 else second + 1
        if first == second:
            return turn
    return None


def naive_doubling(tail, ring):
    stop, flag, limit, steps, since = 0, 0, 1, 0, 0
    while True:
        stop = tail if stop == tail + ring - 1 else stop + 1
        steps += 1
        since += 1
        if stop == flag:
            return steps
        if since == limit:
            flag, limit, since = stop, 2 * limit, 0


class Numbers(Asking):
    def asks_for_numbers(self, action, *given):
        """Each of the numbers is asked for, with its bounds, in their order; the last three are those of walkers."""
        for at in range(len(given)):
            # What comes behind is wrong, too, but it is not asked for yet.
            behind = (None,) * (len(given) - at - 1)
            for value in list(odd_values(but=(int, bool))) + [True, False, "1"] + NO_NUMBERS:
                self.asks("InvalidNumber", value, action, *given[:at], value, *behind)


class StopTest(unittest.TestCase, Numbers):
    def test_stops(self):
        for tail in range(5):
            for ring in range(1, 6):
                for steps in range(20):
                    self.assertEqual(stop_at(tail, ring, steps), walked(tail, ring, steps))
        self.assertEqual([stop_at(3, 4, HUGE), stop_at(HUGE, 1, HUGE), stop_at(HUGE, HUGE, HUGE - 1), stop_at(0, HUGE, HUGE)],
                         [4, HUGE, HUGE - 1, 0])
        self.assertEqual(stop_at(steps=7, ring=4, tail=3), 3)

    def test_errors(self):
        self.asks_for_numbers(stop_at, 0, 1, 0)
        self.asks("InvalidNumber", 0, stop_at, 0, 0, None)


class MeetTest(unittest.TestCase, Numbers):
    def test_small_tracks(self):
        for tail in range(4):
            for ring in range(1, 7):
                for slow in range(4):
                    for fast in range(slow, slow + 5):
                        for lead in range(5):
                            told = (tail, ring, slow, fast, lead)
                            self.assertEqual(meet(*told), naive_meet(*told), told)

    def test_tracks_at_random(self):
        random = Random(331)
        for _ in range(300):
            slow = random.randint(0, 12)
            told = random.randint(0, 40), random.randint(1, 40), slow, slow + random.randint(0, 30), random.randint(0, 50)
            self.assertEqual(meet(*told), naive_meet(*told), told)

    def test_great_numbers(self):
        self.assertEqual(meet(HUGE, HUGE, HUGE, HUGE, 0), 1)
        self.assertIsNone(meet(HUGE, HUGE, HUGE, HUGE, 1))
        self.assertEqual(meet(HUGE, HUGE, 1, 2, 0), HUGE)
        self.assertEqual(meet(HUGE, HUGE - 1, 1, 2, 0), 2 * (HUGE - 1))
        self.assertEqual(meet(0, HUGE, 0, 1, 1), HUGE - 1)
        self.assertIsNone(meet(1, HUGE, 0, 1, 1))
        random = Random(332)
        for _ in range(200):
            slow = random.randint(0, HUGE // 2)
            tail, ring, fast, lead = random.randint(0, HUGE), random.randint(1, HUGE), random.randint(slow, HUGE), random.randint(0, HUGE)
            turn = meet(tail, ring, slow, fast, lead)
            if turn is not None:
                ahead = lead + (fast - slow) * turn
                self.assertTrue(ahead == 0 or (slow * turn >= tail and ahead % ring == 0))
                self.assertFalse(turn > 1 and slow * (turn - 1) >= tail and (ahead - fast + slow) % ring == 0)

    def test_slow_one_fast_two(self):
        # [34]: the least turn that is a multiple of the ring, and at least both the tail and 1.
        for tail in range(30):
            for ring in range(1, 12):
                self.assertEqual(meet(tail, ring, 1, 2, 0), next(t for t in range(ring, 99, ring) if t >= tail))

    def test_meets_always(self):
        for slow in range(5):
            for fast in range(slow, 9):
                for lead in range(8):
                    missed = [(total - ring, ring) for total in range(1, 12) for ring in range(total, 0, -1)
                              if naive_meet(total - ring, ring, slow, fast, lead) is None]
                    self.assertIs(meets_always(slow, fast, lead), missed == [], (slow, fast, lead))
                    self.assertEqual(missed_track(slow, fast, lead), missed[0] if missed else None)
        self.assertIs(meets_always(HUGE, HUGE, 0), True)
        self.assertIs(meets_always(1, HUGE, HUGE - 1), True)
        self.assertIs(meets_always(lead=HUGE, fast=HUGE, slow=1), False)

    def test_missed_tracks_with_great_numbers(self):
        self.assertEqual(missed_track(1, 998, 1), (0, 997))
        self.assertEqual(missed_track(1, 998, 996), (0, 997))
        self.assertIsNone(missed_track(1, 998, 997))
        self.assertEqual(missed_track(1000, 1000, 840), (0, 9))
        self.assertEqual(missed_track(1000, 1000, 1000), (0, 3))
        self.assertEqual(missed_track(0, 1000, 999), (0, 2))
        self.assertEqual(missed_track(0, 1000, 1000), (1, 1))
        self.assertIsNone(missed_track(lead=0, fast=1000, slow=1000))

    def test_errors(self):
        self.asks_for_numbers(meet, 0, 1, 0, 0, 0)
        self.asks_for_numbers(meets_always, 0, 0, 0)
        self.asks_for_numbers(missed_track, 0, 0, 0)
        self.asks("InvalidNumber", 0, meet, 5, 0, 3, 2, None)
        self.asks("InvalidNumber", 2, meet, 5, 1, 3, 2, None)
        self.asks("InvalidNumber", 2, meets_always, 3, 2, None)
        self.asks("InvalidNumber", 2, missed_track, 3, 2, None)
        for given in ((1001, 1001, 0), (HUGE, HUGE, 0)):
            self.asks("InvalidNumber", given[0], missed_track, *given)
            self.asks("InvalidNumber", given[1], missed_track, 1, given[1], None)
            self.asks("InvalidNumber", given[0], missed_track, 1, 2, given[0])
            self.assertIs(meets_always(*given), True)
        self.assertIsNone(missed_track(1000, 1000, 0))


class DoublingTest(unittest.TestCase, Numbers):
    def test_steps(self):
        for tail in range(40):
            for ring in range(1, 40):
                self.assertEqual(doubling_steps(tail, ring), naive_doubling(tail, ring), (tail, ring))
        self.assertEqual(doubling_steps(ring=HUGE, tail=0), 2 ** 100 - 1 + HUGE)
        self.assertEqual(doubling_steps(HUGE, 1), 2 ** 100)
        self.assertEqual(doubling_steps(2 ** 60 - 1, 2 ** 60), 2 ** 61 - 1)
        self.assertEqual(doubling_steps(2 ** 60, 2 ** 60), 2 ** 61 - 1 + 2 ** 60)

    def test_errors(self):
        self.asks_for_numbers(doubling_steps, 0, 1)
        self.asks("InvalidNumber", 0, doubling_steps, 0, 0)


class StoreTest(unittest.TestCase, Numbers):
    def test_tracks_of_stores(self):
        store = read_store("a=4 b=0 c=9 x=1 | 1>2 2>3 3>2 4>5 5>6")
        self.assertEqual([track_of(store, letter) for letter in "abcx"], [None, None, None, (1, 2)])
        self.assertEqual(track_of(letter="x", store=read_store("x=7 | 7>7")), (0, 1))
        self.assertEqual([meeting_place(store, letter, 1, 2, 0) for letter in "abcx"], [None, None, None, 3])
        self.assertIsNone(meeting_place(store, "x", 1, 3, 1))
        self.assertEqual(meeting_place(store, "x", 0, 0, 0), 1)
        self.assertEqual(meeting_place(lead=2, fast=HUGE, slow=HUGE, letter="x", store=store), 3)

    def test_stores_at_random(self):
        random = Random(333)
        for store in some_stores(random, "xy", 400):
            track = track_of(store, "x")
            told = random.randint(0, 3), random.randint(3, 6), random.randint(0, 4)
            place = meeting_place(store, "x", *told)
            if track is None:
                self.assertIsNone(place)
                continue
            self.assertEqual(sum(track), len(way(store, "x")))
            turn = naive_meet(*track, *told)
            self.assertEqual(place, None if turn is None else way(store, "x")[walked(*track, told[0] * turn)])

    def test_the_program_that_chases(self):
        # [36]
        for tail in range(7):
            for ring in range(1, 7):
                cells = tuple((cell, cell + 1 if cell < tail + ring else tail + 1) for cell in range(1, tail + ring + 1))
                told = run(CHASE, Store((("x", 1), ("y", 1)), cells), 400)
                self.assertEqual((told.word, told.store.at("x")), ("done", meeting_place(told.store, "x", 0, 0, 0)))
                self.assertEqual(told.store.at("x"), meeting_place(Store((("x", 1),), cells), "x", 1, 2, 0))
                self.assertEqual(told.steps, 4 * meet(tail, ring, 1, 2, 0))

    def test_errors(self):
        for value in odd_values(but=(Store,)):
            self.asks("NotAStore", value, track_of, value, None)
            self.asks("NotAStore", value, meeting_place, value, None, None, None, None)
        for value in list(odd_values()) + ["y"]:
            self.asks("UnknownName", value, track_of, STORE, value)
            self.asks("UnknownName", value, meeting_place, STORE, value, None, None, None)
        # The numbers are asked for, although the way is no track.
        self.asks_for_numbers(lambda *given: meeting_place(STORE, "x", *given), 0, 0, 0)
        self.asks("InvalidNumber", 2, meeting_place, STORE, "x", 3, 2, None)


if __name__ == "__main__":
    unittest.main()
