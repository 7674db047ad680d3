"""The names, arguments and defaults of the interface, as they are told."""

import inspect
import unittest

from lanescribe import clocks, desk, dumps, kinds, lanes, lookers, merge, recorder, sieve, spans, tallies, ways


def arguments(thing):
    return str(inspect.signature(thing))


class Interface(unittest.TestCase):
    def test_kinds(self):
        self.assertEqual(arguments(kinds.is_name), "(text)")
        self.assertEqual(arguments(kinds.Kind), "(name, fields=())")
        kind = kinds.Kind("k")
        self.assertEqual(arguments(kind.lowest), "()")
        self.assertEqual(arguments(kind.cells), "()")
        self.assertEqual(arguments(kind.place_of), "(field)")
        self.assertEqual(arguments(kind.need), "(values)")

    def test_sieve(self):
        self.assertEqual(arguments(sieve.is_test), "(test)")
        self.assertEqual(arguments(sieve.leaves), "(test)")
        self.assertEqual(arguments(sieve.test_text), "(test)")
        self.assertEqual(arguments(sieve.read_test), "(text)")
        self.assertEqual(arguments(sieve.holds), "(test, kind, values)")
        self.assertEqual(arguments(sieve.parted), "(one, other, kind)")

    def test_ways(self):
        self.assertEqual(arguments(ways.is_way), "(way)")
        self.assertEqual(arguments(ways.made), "(test)")
        self.assertEqual(arguments(ways.run), "(way, kind, values)")
        self.assertEqual(arguments(ways.steps), "(way, kind, values)")
        self.assertEqual(arguments(ways.shorter), "(way)")

    def test_lanes(self):
        self.assertEqual((lanes.PAGES, lanes.ROOM), (4, 8))
        self.assertEqual(arguments(lanes.Lane), "(*, pages=4, room=8, over=True)")
        lane = lanes.Lane()
        self.assertEqual(arguments(lane.claim), "(kind, time)")
        self.assertEqual(arguments(lane.fill), "(ticket, values)")
        self.assertEqual(arguments(lane.resize), "(pages)")
        for method in (lane.give, lane.throw, lane.event):
            self.assertEqual(arguments(method), "(ticket)")
        for method in (lane.take, lane.look, lane.pending, lane.counts, lane.pages_now, lane.twin):
            self.assertEqual(arguments(method), "()")

    def test_lookers(self):
        self.assertEqual(lookers.MOST_TOLD, 400)
        self.assertEqual(arguments(lookers.Looker), "(lane)")
        looker = lookers.Looker(lanes.Lane())
        self.assertEqual(arguments(looker.more), "(*, most=400)")
        self.assertEqual(arguments(looker.place), "()")
        self.assertEqual(arguments(looker.back), "(place=0)")

    def test_tallies(self):
        self.assertEqual(tallies.MOST_KEYS, 16)
        self.assertEqual(arguments(tallies.Tally), "(test, keys, *, most=16)")
        tally = tallies.Tally(("all",), ())
        self.assertEqual(arguments(tally.note), "(kind, values)")
        for method in (tally.table, tally.dropped, tally.twin):
            self.assertEqual(arguments(method), "()")

    def test_clocks(self):
        self.assertEqual(clocks.MOST_AMOUNT, 99999)
        self.assertEqual(arguments(clocks.amounts), "(lanes, ties, *, most=99999)")
        self.assertEqual(arguments(clocks.ring), "(lanes, ties, *, most=99999)")
        self.assertEqual(arguments(clocks.meets), "(lanes, ties, row, *, most=99999)")

    def test_merge(self):
        self.assertEqual(arguments(merge.ties_of), "(causes)")
        self.assertEqual(arguments(merge.merged), "(rows, row)")
        self.assertEqual(arguments(merge.ordered), "(rows, causes, *, most=99999)")

    def test_spans(self):
        for ask in (spans.spans, spans.strays, spans.deepest):
            self.assertEqual(arguments(ask), "(told, pairs)")

    def test_recorder(self):
        self.assertEqual(arguments(recorder.Recorder), "(*, pages=4, room=8)")
        one = recorder.Recorder()
        for names, told in (
            ("kind", "(name, fields=())"), ("lane", "(name, *, over=True)"), ("tick", "(lane, steps=1)"),
            ("claim", "(lane, kind)"), ("fill", "(lane, values)"), ("write", "(lane, kind, values)"),
            ("resize", "(lane, pages)"), ("sieve", "(lane, test)"), ("tally", "(name, test, *, keys=())"),
            ("halt", "(test=None)"), ("do", "(deed)"), ("whole", "(deeds)"), ("order", "(causes, *, most=99999)"),
            ("give throw take now test_of look pending counts looker", "(lane)"), ("table dropped", "(name)"),
            ("stop go undo redo twin kinds lanes tallies stopped halted_by done", "()"),
        ):
            for name in names.split():
                self.assertEqual(arguments(getattr(one, name)), told, name)

    def test_dumps(self):
        self.assertEqual(arguments(dumps.dump), "(told)")
        self.assertEqual(arguments(dumps.read_dump), "(text)")
        self.assertEqual(arguments(dumps.mended), "(text)")

    def test_desk(self):
        self.assertEqual(arguments(desk.Desk), "(*, pages=4, room=8)")
        self.assertEqual(arguments(desk.Desk().say), "(line)")


if __name__ == "__main__":
    unittest.main()
