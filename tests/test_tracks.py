import random
import unittest
from fractions import Fraction

from metehouse.errors import BadLimit, BadName, BadNumber, BadReading, NoStory, NothingToUndo, NotPossible, NoTick
from metehouse.errors import NoValue, Taken, Unlike
from metehouse.forms import Form
from metehouse.gauges import CoarseGauge, Gauge
from metehouse.pieces import Pieces
from metehouse.tracks import Track
from tests.helping import Case
from tests.sampling import faults, pair

A = Form.one("a")
BIG = 10 ** 29 + 7
# With integers as ends and as pace, sets differ at these values if they differ at all.
GRID = [Fraction(number, 2) for number in range(-30, 31)]


def gauge(name, radius=0):
    return Gauge(name, A, radius=radius)


class Plain:
    """The stories of a track, by counting over all values of the grid."""

    def __init__(self, start, pace, most):
        self.start, self.pace, self.most = start, pace, most
        self.ticks = []

    def allowed(self, tick, value):
        wrong = [1 for one, told in self.ticks[tick] if pair(value) not in one.room(told)]
        return len(wrong) <= self.most and (tick > 0 or pair(value) in self.start)

    def at(self, tick):
        reached = [value for value in GRID if self.allowed(0, value)]
        for later in range(1, tick + 1):
            reached = [value for value in GRID if self.allowed(later, value)
                       and any(abs(value - before) <= self.pace for before in reached)]
        return reached

    def smoothed(self, tick):
        last = len(self.ticks) - 1
        able = self.at(last)
        for earlier in range(last - 1, tick - 1, -1):
            able = [value for value in self.at(earlier) if any(abs(value - after) <= self.pace for after in able)]
        return able

    def is_story(self, story):
        values = [Fraction(*level) for level in story]
        return (len(values) == len(self.ticks)
                and all(self.allowed(tick, value) for tick, value in enumerate(values))
                and all(abs(one - two) <= self.pace for one, two in zip(values, values[1:])))


def asked(track):
    """All that a track can be asked about."""
    ticks = [(tick, names, str(levels)) for tick, names, levels in track.ticks()]
    smoothed = [str(track.smoothed(tick)) for tick in range(len(track))]
    return str(track.now), len(track), ticks, smoothed, [str(track.at(tick)) for tick in range(len(track))]


class TrackCase(Case):
    def stays(self, track, kind, call, *args, **named):
        before = asked(track)
        self.refused(kind, call, *args, **named)
        self.assertEqual(asked(track), before)


class TestMaking(TrackCase):
    def test_errors_in_order(self):
        some = Pieces.between(0, 1)
        self.refused(BadName, Track, "a.1", Pieces.none(), pace=-1, most=-1, has={"name": "a.1"})
        self.refused(NoValue, Track, "a", Pieces.none(), pace=-1, most=-1)
        self.refused(BadNumber, Track, "a", some, pace=-1, most=-2, has={"number": -1})
        self.refused(BadLimit, Track, "a", some, most=-2, has={"limit": -2})

    def test_without_ticks(self):
        start = Pieces.between(0, 1) | Pieces.point((9, 2))
        track = Track("a", start)
        self.assertEqual((track.now, len(track), list(track.ticks()), track.story((9, 2))), (start, 0, [], []))
        for tick in (-1, 0, 1):
            self.stays(track, NoTick, track.at, tick, has={"tick": tick})
            self.stays(track, NoTick, track.smoothed, tick, has={"tick": tick})
        self.stays(track, NotPossible, track.story, (2, 1), has={"number": (2, 1)})
        self.stays(track, NothingToUndo, track.undo)
        self.stays(track, NoTick, track.tell_late, 0, gauge("g"), 1, has={"tick": 0})


class TestRecord(TrackCase):
    def test_start_and_pace(self):
        track = Track("a", Pieces.between(0, 10), pace=2)
        self.assertEqual(str(track.record()), "[0, 10]")
        self.assertEqual(str(track.record()), "[-2, 12]")
        self.assertEqual(str(track.record((gauge("g", 1), 13))), "[12, 14]")
        self.assertEqual([str(track.smoothed(tick)) for tick in range(3)], ["[8, 10]", "[10, 12]", "[12, 14]"])
        self.assertEqual([str(track.at(tick)) for tick in range(3)], ["[0, 10]", "[-2, 12]", "[12, 14]"])
        self.assertEqual((len(track), str(track.now)), (3, "[12, 14]"))

    def test_false_readings_of_a_tick(self):
        track = Track("a", Pieces.every(), most=1)
        self.assertEqual(str(track.record((gauge("x"), 0), (gauge("y"), 5))), "[0, 0] [5, 5]")
        self.assertEqual(str(track.record((gauge("x"), 0))), "[0, 0] [5, 5]")
        self.assertEqual(str(track.record((gauge("x"), 5), (gauge("y"), 5))), "[5, 5]")
        self.assertEqual([str(track.smoothed(tick)) for tick in range(3)], ["[5, 5]"] * 3)

    def test_coarse_gauges(self):
        track = Track("a", Pieces.every(), pace=1)
        self.assertEqual(str(track.record((CoarseGauge("c", A, step=10), 20))), "[20, 30)")
        self.assertEqual(str(track.record((CoarseGauge("c", A, step=10), 30))), "[30, 31)")
        self.assertEqual(str(track.smoothed(0)), "[29, 30)")

    def test_errors_telling_by_telling(self):
        track = Track("a", Pieces.between(0, 9), pace=1)
        track.record((gauge("g"), 4))
        other = Gauge("g", Form.one("b"))
        self.stays(track, Taken, track.record, (gauge("x"), 1), (gauge("x"), "no"), (other, 3), has={"name": "x"})
        self.stays(track, BadReading, track.record, (gauge("x"), "no"), (other, 3), has={"name": "x", "told": "no"})
        self.stays(track, Unlike, track.record, (other, "no"), (gauge("x"), "no"), has={"name": "g"})
        self.stays(track, Unlike, track.record, (gauge("x"), 99), (Gauge("x", A + 1), 3), has={"name": "x"})
        coarse = CoarseGauge("c", A, step=2)
        self.stays(track, BadReading, track.record, (gauge("x"), 99), (coarse, 3), has={"name": "c", "told": 3})
        self.stays(track, NoStory, track.record, (gauge("x"), 99), has={"tick": 1})
        self.assertEqual(str(track.record((gauge("x"), 5))), "[5, 5]")

    def test_no_story_at_the_first_tick(self):
        track = Track("a", Pieces.between(0, 9))
        self.stays(track, NoStory, track.record, (gauge("x"), 10), has={"tick": 0})
        self.assertEqual(str(track.now), "[0, 9]")

    def test_big_numbers(self):
        track = Track("a", Pieces.point((BIG, 3)), pace=BIG)
        track.record()
        self.assertEqual(track.record(), Pieces.point((BIG, 3)).grown(BIG, BIG))


class TestTellLate(TrackCase):
    def setUp(self):
        self.track = Track("a", Pieces.between(0, 100), pace=3)
        self.track.record((gauge("g", 5), 10))
        self.track.record((gauge("g", 5), 14))
        self.track.record((gauge("g", 5), 18))

    def test_earlier_and_latest_tick(self):
        self.assertEqual(str(self.track.tell_late(0, gauge("h", 1), 6)), "[13, 13]")
        self.assertEqual(str(self.track.at(0)), "[5, 7]")
        self.assertEqual(str(self.track.tell_late(2, gauge("h"), 13)), "[13, 13]")
        self.assertEqual([names for _, names, _ in self.track.ticks()], [["g", "h"], ["g"], ["g", "h"]])
        self.assertEqual([str(self.track.smoothed(tick)) for tick in range(3)], ["[7, 7]", "[10, 10]", "[13, 13]"])

    def test_errors_in_order(self):
        other, late = Gauge("g", Form.one("b")), self.track.tell_late
        for tick in (-1, 3, BIG):
            self.stays(self.track, NoTick, late, tick, other, "no", has={"tick": tick})
        self.stays(self.track, Unlike, late, 1, other, "no", has={"name": "g"})
        self.stays(self.track, Taken, late, 1, gauge("g"), "no", has={"name": "g"})
        self.stays(self.track, BadReading, late, 1, gauge("h"), "no", has={"name": "h", "told": "no"})
        self.stays(self.track, NoStory, late, 1, gauge("h"), 99, has={"tick": 1})

    def test_the_first_tick_without_a_level(self):
        self.stays(self.track, NoStory, self.track.tell_late, 0, gauge("h"), 6, has={"tick": 2})
        self.stays(self.track, NoStory, self.track.tell_late, 0, gauge("h"), 5, has={"tick": 1})
        self.stays(self.track, NoStory, self.track.tell_late, 0, gauge("h"), 4, has={"tick": 0})
        self.track.record()
        self.stays(self.track, NoStory, self.track.tell_late, 0, gauge("h"), 6, has={"tick": 2})


class TestUndo(TrackCase):
    def test_back_step_by_step(self):
        track = Track("a", Pieces.between(0, 20), pace=2, most=1)
        states = [asked(track)]
        for step in [lambda: track.record((gauge("x", 3), 5), (gauge("y", 3), 9)), lambda: track.record(),
                     lambda: track.tell_late(0, gauge("z", 1), 7), lambda: track.record((gauge("x"), 8)),
                     lambda: track.tell_late(2, gauge("y"), 9), lambda: track.tell_late(1, gauge("y"), 9),
                     lambda: track.tell_late(1, gauge("x"), 7)]:
            step()
            states.append(asked(track))
        states.pop()
        while states:
            self.assertIsNone(track.undo())
            self.assertEqual(asked(track), states.pop())
        self.stays(track, NothingToUndo, track.undo)

    def test_refused_calls_are_no_steps(self):
        track = Track("a", Pieces.between(0, 20))
        track.record((gauge("x"), 5))
        self.refused(NoStory, track.record, (gauge("x"), 6), has={"tick": 1})
        self.refused(NoStory, track.tell_late, 0, gauge("y"), 6, has={"tick": 0})
        track.undo()
        self.assertEqual((len(track), str(track.now)), (0, "[0, 20]"))

    def test_the_name_is_free_again(self):
        track = Track("a", Pieces.every())
        track.record()
        track.tell_late(0, gauge("x"), 5)
        track.undo()
        self.assertEqual(str(track.tell_late(0, gauge("x"), 6)), "[6, 6]")


class TestAsking(TrackCase):
    def test_results_are_new(self):
        track = Track("a", Pieces.between(0, 9), pace=1)
        track.record((gauge("x", 2), 5))
        before = asked(track)
        for _, names, _ in list(track.ticks()):
            names.append("y")
        track.story((5, 1)).append((9, 1))
        self.assertEqual(asked(track), before)

    def test_stories(self):
        track = Track("a", Pieces.between(0, 9), pace=2)
        track.record((gauge("x", 1), 2))
        track.record()
        track.record((gauge("x", 1), 6))
        self.assertEqual(track.story((7, 1)), [(3, 1), (5, 1), (7, 1)])
        for number in [(8, 1), (24, 5), (-1, 1), (15, 2)]:
            self.stays(track, NotPossible, track.story, number, has={"number": number})

    def test_now_is_read_alone(self):
        with self.assertRaises(AttributeError):
            Track("a", Pieces.every()).now = Pieces.none()

    def test_missing_ticks(self):
        track = Track("a", Pieces.every())
        track.record()
        for call in (track.at, track.smoothed):
            for tick in (-1, 1, BIG):
                self.stays(track, NoTick, call, tick, has={"tick": tick})


class TestPlainCount(TrackCase):
    def check(self, track, plain, chance):
        for tick in range(len(plain.ticks)):
            for found, expected in [(track.at(tick), plain.at(tick)), (track.smoothed(tick), plain.smoothed(tick))]:
                self.assertEqual([value for value in GRID if pair(value) in found], expected)
                self.assertEqual(faults(found.parts), [])
        if plain.ticks:
            self.assertEqual(track.now, track.at(len(plain.ticks) - 1))
            number = pair(chance.choice(plain.at(len(plain.ticks) - 1)))
            story = track.story(number)
            self.assertEqual(story[-1], number)
            self.assertTrue(plain.is_story(story))

    def any_telling(self, chance, name):
        if chance.random() < 0.25:
            step = chance.randint(1, 4)
            return CoarseGauge(name, A, step=step, radius=chance.randint(0, 1)), step * chance.randint(-3, 3)
        return gauge(name, chance.randint(0, 3)), chance.randint(-6, 6)

    def step(self, chance, track, plain):
        """One more record or telling; a refused one changes neither side."""
        if plain.ticks and chance.random() < 0.4:
            tick = chance.randrange(len(plain.ticks))
            one, told = self.any_telling(chance, f"late{'abcd'[len(plain.ticks[tick]) % 4]}")
            try:
                track.tell_late(tick, one, told)
            except Taken:
                return
            except NoStory as error:
                plain.ticks[tick].append((one, told))
                self.assertEqual(error.tick, next(k for k in range(len(plain.ticks)) if not plain.at(k)))
                plain.ticks[tick].pop()
                return
            plain.ticks[tick].append((one, told))
            return
        tellings = [self.any_telling(chance, name) for name in chance.sample("xyz", chance.randint(0, 3))]
        plain.ticks.append(tellings)
        try:
            track.record(*tellings)
        except NoStory as error:
            self.assertEqual(error.tick, len(plain.ticks) - 1)
            self.assertEqual(plain.at(error.tick), [])
            plain.ticks.pop()

    def test_many_tracks(self):
        chance = random.Random(7)
        for _ in range(40):
            start = Pieces.between(-5, chance.randint(-5, 5)) | Pieces.point((chance.randint(-5, 5), 1))
            pace, most = chance.randint(0, 3), chance.randint(0, 2)
            track, plain = Track("a", start, pace=pace, most=most), Plain(start, pace, most)
            for _ in range(chance.randint(1, 7)):
                self.step(chance, track, plain)
            self.check(track, plain, chance)


if __name__ == "__main__":
    unittest.main()
