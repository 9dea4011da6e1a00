"""The interface of the document: names, arguments, and the files that define them."""

import importlib
import inspect
import unittest

# "Class.method" or "function", each with its arguments.
INTERFACE = {
    "shapes": {
        "Shape.__init__": "(self, widths)",
        "Shape.span": "(self, level)",
        "Shape.path": "(self, page)",
        "Shape.page_at": "(self, path)",
        "Shape.block_at": "(self, level, page)",
        "cover": "(shape, start, end)",
    },
    "regions": {
        "Regions.__init__": "(self, limit)",
        "Regions.assign": "(self, start, end, rights, *, file='', index=0)",
        "Regions.unassign": "(self, start, end)",
        "Regions.protect": "(self, start, end, rights)",
        "Regions.as_list": "(self)",
        "Regions.mark_at": "(self, page)",
        "Regions.__iter__": "(self)",
        "Regions.__contains__": "(self, page)",
        "Regions.mapped_count": "(self)",
        "Regions.clone": "(self)",
    },
    "holes": {
        "find_hole": "(regions, length, *, least=0)",
        "hole_blockers": "(regions, length, *, least=0)",
    },
    "folding": {
        "FoldedTable.__init__": "(self, shape, regions)",
        "FoldedTable.walk": "(self, page)",
        "FoldedTable.entries": "(self)",
        "FoldedTable.table_count": "(self)",
        "FoldedTable.tree": "(self)",
    },
    "cache": {
        "Cache.__init__": "(self, capacity)",
        "Cache.look": "(self, key)",
        "Cache.fill": "(self, key, value)",
        "Cache.drop": "(self, key)",
        "Cache.clear_all": "(self)",
        "Cache.entries": "(self)",
        "Cache.__contains__": "(self, key)",
    },
    "droprules": {
        "change_kind": "(old, new)",
        "play_trace": "(trace, capacity, kinds)",
        "is_safe": "(kinds, capacity)",
        "unsafe_trace": "(kinds, capacity)",
    },
    "flushplan": {
        "flush_plan": "(trace, capacity)",
    },
    "library": {
        "Library.__init__": "(self, shape)",
        "Library.create": "(self)",
        "Library.lend": "(self, book)",
        "Library.delete": "(self, book)",
        "Library.write": "(self, book, page, *, offset=0, length=1)",
        "Library.drop_range": "(self, book, start, end)",
        "Library.copy_page": "(self, book, page, target, target_page)",
        "Library.stamp_of": "(self, book, page)",
        "Library.changes": "(self)",
        "Library.copies": "(self)",
        "Library.table_count": "(self)",
        "Library.leaves": "(self, book)",
        "Library.holders": "(self, stamp)",
        "Library.stamps": "(self)",
        "Library.growth": "(self, slots)",
        "Library.tables": "(self, book)",
        "Library.lenders": "(self, book, level, page)",
        "Library.tell_apart": "(self, book, page, other, other_page)",
        "Library.restore": "(self, tables, leaves)",
    },
    "choosers": {
        "Chooser.__init__": "(self, kind, frames)",
        "Chooser.filled": "(self, frame)",
        "Chooser.touched": "(self, frame)",
        "Chooser.emptied": "(self, frame)",
        "Chooser.choose": "(self, allowed)",
    },
    "traces": {
        "page_ins": "(trace, frames, kind)",
        "working_set": "(trace, window)",
        "phases": "(trace, frames)",
    },
    "fewest": {
        "fewest_page_ins": "(trace, frames)",
    },
    "pager": {
        "Pager.__init__": "(self, frames, places, page_size, *, chooser='lru')",
        "Pager.room": "(self)",
        "Pager.page_in_count": "(self)",
        "Pager.page_out_count": "(self)",
        "Pager.bring": "(self, stamp)",
        "Pager.begin": "(self, stamp)",
        "Pager.duplicate": "(self, old, new)",
        "Pager.rename": "(self, old, new)",
        "Pager.store": "(self, stamp, offset, data)",
        "Pager.release": "(self, stamp)",
        "Pager.pin": "(self, stamp)",
        "Pager.unpin": "(self)",
        "Pager.read": "(self, stamp, offset, length)",
        "Pager.put_out": "(self, stamp)",
        "Pager.live": "(self)",
        "Pager.frame_list": "(self)",
        "Pager.place_list": "(self)",
        "Pager.left": "(self)",
        "Pager.ledger": "(self)",
        "Pager.sweep": "(self)",
    },
    "ledger": {
        "bags_agree": "(places, rows, sweep)",
        "first_lie": "(places, rows, sweep)",
    },
    "device": {
        "Device.__init__": "(self, blocks)",
        "Device.write": "(self, block, content)",
        "Device.barrier": "(self)",
        "Device.crash": "(self, fates)",
        "Device.read": "(self, block)",
        "Device.pending": "(self)",
    },
    "journal": {
        "Journal.__init__": "(self, device, shape)",
        "Journal.commit": "(self, files, contents, *, stop=None)",
        "Journal.state_number": "(self)",
        "Journal.block_count": "(self)",
        "Journal.files": "(self)",
        "Journal.stamps": "(self)",
        "Journal.content": "(self, stamp)",
    },
    "house": {
        "House.__init__": (
            "(self, *, widths=(4, 4), page_size=4, frames=8, places=8, blocks=200, hands=1, cache=8, chooser='lru')"
        ),
        "House.create_space": "(self)",
        "House.fork_space": "(self, space)",
        "House.delete_space": "(self, space)",
        "House.spaces": "(self)",
        "House.map_plain": "(self, space, start, length, rights)",
        "House.map_shared": "(self, space, start, length, rights, name, first)",
        "House.map_private": "(self, space, start, length, rights, name, first)",
        "House.unmap": "(self, space, start, length)",
        "House.protect": "(self, space, start, length, rights)",
        "House.regions": "(self, space)",
        "House.find_hole": "(self, space, length, *, least=0)",
        "House.walk": "(self, space, page)",
        "House.create_file": "(self, name, size)",
        "House.copy_file": "(self, name, new_name)",
        "House.resize_file": "(self, name, size)",
        "House.delete_file": "(self, name)",
        "House.files": "(self)",
        "House.read": "(self, space, address, length, *, right='r', hand=0)",
        "House.write": "(self, space, address, data, *, hand=0)",
        "House.check": "(self, space, address, length, *, right)",
        "House.growth": "(self, space, address, length)",
        "House.read_file": "(self, name, address, length)",
        "House.write_file": "(self, name, address, data)",
        "House.stamp_at": "(self, space, page)",
        "House.file_stamp": "(self, name, page)",
        "House.copies": "(self)",
        "House.table_count": "(self)",
        "House.stamps": "(self)",
        "House.tell_apart": "(self, space, page, other, other_page)",
        "House.in_frames": "(self)",
        "House.in_places": "(self)",
        "House.walks": "(self)",
        "House.cached": "(self, hand)",
        "House.put_out": "(self, stamp)",
        "House.bring_in": "(self, stamp)",
        "House.empty_cache": "(self, hand)",
        "House.ledger": "(self)",
        "House.sweep": "(self)",
        "House.sync": "(self)",
        "House.crash": "(self, *, stop=None, fates=())",
        "House.holders": "(self, stamp)",
        "House.held": "(self, stamp)",
        "House.let_go": "(self)",
        "House.checkpoint": "(self)",
        "House.go_back": "(self, number)",
        "House.forget": "(self, number)",
        "House.attempt": "(self, deeds)",
    },
    "crew": {
        "Crew.__init__": "(self, programs, *, without='')",
        "Crew.turn": "(self, hand)",
        "Crew.take": "(self, hand)",
        "Crew.lose": "(self, hand)",
        "Crew.waiting": "(self, hand)",
        "Crew.order": "(self)",
        "Crew.answers": "(self, hand)",
        "Crew.cached": "(self, hand)",
        "Crew.finished": "(self)",
        "play": "(crew, schedule)",
        "finish": "(crew)",
    },
    "crewrules": {
        "broken_run": "(rule)",
    },
    "replay": {
        "replay": "(programs, order, house)",
    },
    "codes": {
        "assemble": "(lines)",
        "disassemble": "(data)",
    },
    "machine": {
        "Machine.__init__": "(self, house, space, *, start=0, hand=0, mode='resume')",
        "Machine.tick": "(self)",
        "Machine.step": "(self)",
        "Machine.run": "(self, limit)",
        "Machine.outcome": "(self)",
        "Machine.registers": "(self)",
        "Machine.next_address": "(self)",
        "Machine.executed": "(self)",
    },
}


class InterfaceTest(unittest.TestCase):
    def test_names_and_arguments(self):
        for name, members in INTERFACE.items():
            module = importlib.import_module("lentpages." + name)
            for path, arguments in members.items():
                with self.subTest(module=name, path=path):
                    self.assertEqual(str(inspect.signature(self.find(module, path))), arguments)

    def find(self, module, path):
        """What the path names, which has to stand in the module and in the class itself."""
        found = module
        for word in path.split("."):
            self.assertIn(word, vars(found))
            found = vars(found)[word]
            self.assertEqual(found.__module__, module.__name__)
        return found


if __name__ == "__main__":
    unittest.main()
