"""Points 1 to 3 over the whole program: what is returned is new and of the promised kinds, what is passed stays."""

import unittest
from copy import deepcopy

from lentpages.cache import Cache
from lentpages.codes import assemble, disassemble
from lentpages.crew import Crew, finish, play
from lentpages.crewrules import broken_run
from lentpages.device import Device
from lentpages.droprules import play_trace, unsafe_trace
from lentpages.fewest import fewest_page_ins
from lentpages.flushplan import flush_plan
from lentpages.folding import FoldedTable
from lentpages.holes import find_hole, hole_blockers
from lentpages.house import House
from lentpages.journal import Journal
from lentpages.ledger import bags_agree, first_lie
from lentpages.library import Library
from lentpages.machine import Machine
from lentpages.pager import Pager
from lentpages.regions import Regions
from lentpages.replay import replay
from lentpages.shapes import Shape, cover
from lentpages.traces import page_ins, phases, working_set
from tests.plain import outcome

SHAPE = Shape([2, 3])
TRACE = [("set", "a", 1), ("touch", "a"), ("set", "a", 2), ("touch", "a")]
PROGRAMS = [[("map", 0, 1, "rw"), ("write", 0, 1, 3), ("fork", 0)], [("read", 0, 1), ("read", 7, 1)]]
TRUTHS = (
    "put_out", "bring_in", "held", "drop", "finished", "tick", "bags_agree", "__contains__", "is_safe",
)


def filled_regions():
    regions = Regions(6)
    regions.assign(0, 3, "rw")
    regions.assign(4, 5, "r", file="a", index=2)
    return regions


def filled_table():
    return FoldedTable(SHAPE, filled_regions())


def filled_library():
    library = Library(SHAPE)
    library.create()
    library.write(1, 0, offset=2)
    library.write(1, 5)
    library.lend(1)
    library.write(2, 5)
    return library


def filled_cache():
    cache = Cache(3)
    cache.fill("a", 1)
    cache.fill(("b", 2), ("c",))
    return cache


def filled_pager():
    pager = Pager(2, 3, 2)
    for stamp in (1, 2, 3):
        pager.begin(stamp)
        pager.store(stamp, 0, [stamp, 9])
    return pager


def filled_device():
    device = Device(30)
    device.write(3, ("a", (1, None)))
    return device


def filled_journal():
    library = filled_library()
    journal = Journal(Device(30), SHAPE)
    files = [("b", 6, library.tables(1), library.leaves(1)), ("a", 6, library.tables(2), library.leaves(2))]
    journal.commit(files, {1: [1], 2: [2], 3: [3]})
    return journal


def filled_house():
    house = House(widths=(2, 3), page_size=2, frames=2, places=9, hands=2)
    house.create_file("a", 3)
    house.create_space()
    house.map_plain(0, 0, 3, "rwx")
    house.map_shared(0, 4, 2, "rw", "a", 1)
    house.write(0, 1, [1, 2, 3])
    house.write(0, 8, [4])
    house.fork_space(0)
    house.write(1, 0, [5])
    house.read(0, 0, 4, hand=1)
    house.checkpoint()
    return house


def filled_crew():
    crew = Crew(PROGRAMS)
    play(crew, [("turn", 0), ("turn", 0), ("turn", 1), ("turn", 0)])
    return crew


def filled_machine():
    house = House()
    house.create_space()
    house.map_plain(0, 0, 4, "rwx")
    house.write(0, 0, assemble(["set 3 300", "halt"]))
    machine = Machine(house, 0)
    machine.run(2)
    return machine


# For each kind of object how to make one, and its questions with their arguments.
QUESTIONS = (
    (lambda: SHAPE, [("span", 0), ("path", 4), ("page_at", (1, 1)), ("block_at", 0, 4)]),
    (filled_regions, [("as_list",), ("mark_at", 4), ("mark_at", 3), ("mapped_count",), ("__contains__", 4)]),
    (filled_table, [("walk", 1), ("walk", 4), ("entries",), ("table_count",), ("tree",)]),
    (filled_cache, [
        ("entries",), ("__contains__", "a"), ("clear_all",), ("drop", "a"), ("fill", "z", 1), ("look", "a"),
    ]),
    (filled_library, [
        ("stamp_of", 1, 0), ("changes",), ("copies",), ("table_count",), ("leaves", 1), ("holders", 1), ("stamps",),
        ("growth", [(1, 0), (1, 3)]), ("tables", 1), ("lenders", 1, 0, 0), ("tell_apart", 1, 0, 1, 5), ("write", 1, 2),
        ("create",), ("lend", 1), ("delete", 1), ("drop_range", 1, 0, 6), ("copy_page", 1, 0, 2, 5),
        ("restore", [], []),
    ]),
    (filled_pager, [
        ("room",), ("page_in_count",), ("page_out_count",), ("read", 1, 0, 2), ("put_out", 3), ("put_out", 1),
        ("live",), ("frame_list",), ("place_list",), ("left",), ("ledger",), ("sweep",),
    ]),
    (filled_device, [("read", 3), ("read", 2), ("pending",)]),
    (filled_journal, [
        ("state_number",), ("block_count",), ("files",), ("stamps",), ("content", 1), ("commit", [], {}),
    ]),
    (filled_house, [
        ("create_space",), ("fork_space", 0), ("spaces",), ("regions", 0), ("find_hole", 0, 1), ("walk", 0, 1),
        ("files",), ("read", 0, 0, 4), ("growth", 0, 0, 4), ("read_file", "a", 0, 6), ("stamp_at", 0, 0),
        ("file_stamp", "a", 2), ("copies",), ("table_count",), ("stamps",), ("tell_apart", 0, 0, 1, 0),
        ("in_frames",), ("in_places",), ("walks",), ("cached", 0), ("cached", 1), ("put_out", 1),
        ("bring_in", 1), ("bring_in", 99), ("empty_cache", 1), ("ledger",), ("sweep",), ("sync",), ("holders", 1),
        ("held", 1), ("held", 0), ("checkpoint",), ("attempt", [("create_space",), ("write", 0, 0, [1])]),
    ]),
    (filled_crew, [
        ("turn", 1), ("take", 1), ("lose", 1), ("waiting", 1), ("order",), ("answers", 1), ("cached", 1),
        ("finished",),
    ]),
    (filled_machine, [
        ("tick",), ("step",), ("run", 2), ("outcome",), ("registers",), ("next_address",), ("executed",),
    ]),
)
FUNCTIONS = (
    (cover, (SHAPE, 1, 5)), (find_hole, (filled_regions(), 1)), (hole_blockers, (filled_regions(), 2)),
    (play_trace, (TRACE, 1, ["loss"])), (unsafe_trace, (["move"], 1)), (flush_plan, (TRACE, 1)),
    (page_ins, ([1, 2, 1, 3], 2, "lru")), (working_set, ([1, 2, 1], 2)), (phases, ([1, 2, 1], 1)),
    (fewest_page_ins, ([1, 2, 1, 2], 2)), (bags_agree, (1, [(0, 0, 0, 4)], [(0, 4, 1)])),
    (first_lie, (1, [(0, 0, 0, 4)], [(0, 4, 2)])), (play, (Crew(PROGRAMS), [("turn", 0), ("lose", 1)])),
    (finish, (Crew(PROGRAMS),)), (broken_run, ("hold",)), (assemble, (["set 1 2", "halt"],)),
    (disassemble, ([0, 0, 0, 0, 10, 1, 0, 0],)),
)


def spoil(value):
    """Changes all lists in the value."""
    if isinstance(value, (list, tuple)):
        for part in value:
            spoil(part)
    if isinstance(value, list):
        value.append("spoiled")


class WholeTest(unittest.TestCase):
    def check_kinds(self, name, value):
        """Only plain integers, strings, lists, tuples and None; True and False where the answer is one of them."""
        if name in TRUTHS:
            self.assertIs(type(value), bool, name)
        elif isinstance(value, (list, tuple)):
            self.assertIn(type(value), (list, tuple), name)
            for part in value:
                self.check_kinds(name, part)
        else:
            self.assertIn(type(value), (int, str, type(None)), name)

    def test_what_is_returned(self):
        for make, questions in QUESTIONS:
            for name, *args in questions:
                with self.subTest(name=name, kind=make().__class__.__name__):
                    value = getattr(make(), name)(*args)
                    self.check_kinds(name, value)

    def test_lists_are_new(self):
        for make, questions in QUESTIONS:
            for name, *args in questions:
                spoiled, wanted = make(), make()
                spoil(getattr(spoiled, name)(*deepcopy(args)))
                getattr(wanted, name)(*deepcopy(args))
                # Whatever both are asked now, the changes of the answer have no effect.
                for again, *others in questions:
                    with self.subTest(name=name, again=again, kind=wanted.__class__.__name__):
                        found = outcome(getattr(spoiled, again), *deepcopy(others))
                        self.assertEqual(found, outcome(getattr(wanted, again), *deepcopy(others)))

    def test_what_is_passed_stays(self):
        for make, questions in QUESTIONS:
            for name, *args in questions:
                with self.subTest(name=name):
                    told = deepcopy(args)
                    getattr(make(), name)(*told)
                    self.assertEqual(told, args)

    def test_what_is_passed_is_not_kept(self):
        deeds = [
            (filled_house, "write", (0, 0, [7, 7, 7]), ("read", 0, 0, 4)),
            (filled_house, "write_file", ("a", 2, [7, 7]), ("read_file", "a", 0, 6)),
            (filled_pager, "store", (3, 0, [7, 7]), ("read", 3, 0, 2)),
        ]
        for make, name, args, question in deeds:
            spoiled, wanted = make(), make()
            told = deepcopy(args)
            getattr(spoiled, name)(*told)
            spoil(told)
            getattr(wanted, name)(*args)
            self.assertEqual(getattr(spoiled, question[0])(*question[1:]), getattr(wanted, question[0])(*question[1:]))
        widths = [2, 3]
        house = House(widths=widths)
        widths.append(2)
        self.assertEqual((house.page_count, len(house.sweep())), (6, 8))

    def test_functions(self):
        for function, args in FUNCTIONS:
            with self.subTest(name=function.__name__):
                told = [deepcopy(part) for part in args]
                value = function(*told)
                self.check_kinds(function.__name__, value)
                if all([isinstance(part, (int, str, list)) for part in args]):
                    self.assertEqual(told, list(args))
                    wanted = deepcopy(value)
                    spoil(value)
                    self.assertEqual(function(*told), wanted)

    def test_replay(self):
        programs, order = deepcopy(PROGRAMS), [(0, 0), (1, 0), (0, 1), (1, 1), (0, 2)]
        found = replay(programs, order, House())
        self.check_kinds("replay", found)
        self.assertEqual((found, programs), ([["done", "done", 1], [0, "refused"]], PROGRAMS))
        self.assertEqual(order, [(0, 0), (1, 0), (0, 1), (1, 1), (0, 2)])

    def test_attributes(self):
        house = House(widths=[2, 3], page_size=5, frames=2, hands=3)
        for value in (house.page_size, house.page_count, house.frames, house.hands, SHAPE.levels, SHAPE.page_count):
            self.assertIs(type(value), int)
        self.assertEqual((SHAPE.widths, filled_regions().limit), ((2, 3), 6))


if __name__ == "__main__":
    unittest.main()
