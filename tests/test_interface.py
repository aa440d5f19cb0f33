"""The names of the interface of the newer modules: each is defined where it is listed, with the arguments listed."""

import importlib
import inspect
import unittest

FUNCTIONS = {
    "handles": {
        "start_handles": "(ground, start, size, slots)",
        "is_no_parcel": "(image, start, size, paper, wanted)",
    },
    "mapped": {},
    "nodes": {
        "start_nodes": "(ground, start, size)",
        "is_no_node": "(image, start, size, paper, wanted)",
    },
    "collect": {
        "ways": "(nodes)", "is_way": "(nodes, node, way)", "collect_marking": "(nodes)", "collect_moving": "(nodes)",
        "rings": "(nodes)", "shape": "(nodes)",
    },
    "store": {
        "is_no_room": "(image, paper, size, *, align=1, arena=3, heap=2, zone=1, urgent=False)",
    },
    "notation": {"is_request": "(value)", "parse_requests": "(text)", "print_requests": "(requests)"},
    "sessions": {"replayed": "(image, records)"},
    "audit": {
        "first_broken_map": "(image)", "first_broken_word": "(image, *, arena=3, heap=2, pages=8)",
        "audit": "(image, *, arena=3, heap=2, pages=8)", "spaces_in": "(image, *, pages=8)", "account": "(image)",
    },
    "twin": {"is_run": "(requests, outcomes, *, width, fill=0)"},
}
CLASSES = {
    ("handles", "Handles"): {
        "__init__": "(self, ground, start, size)", "take": "(self, size, holder)",
        "read": "(self, handle, offset, holder)", "write": "(self, handle, offset, word, holder)",
        "pin": "(self, handle, holder)", "unpin": "(self, handle, holder)", "give_back": "(self, handle, holder)",
        "span_at": "(self, handle)", "compact": "(self)", "layout": "(self)", "handed": "(self)",
    },
    ("mapped", "Mapped"): {
        "__init__": "(self, buddies, label, *, pages=8, slow=0, zone=1)", "reserve": "(self, holder, count)",
        "commit_pages": "(self, holder, start, count)", "protect": "(self, holder, start, count, rights)",
        "release": "(self, holder, start, count)", "share": "(self, giver, start, count, taker)",
        "put_out": "(self, holder, start, count)", "load": "(self, holder, place)",
        "store": "(self, holder, place, word)", "table": "(self, holder)", "stretches": "(self, holder)",
        "namers": "(self, page)",
    },
    ("nodes", "Nodes"): {
        "__init__": "(self, ground, start, size)", "make": "(self, root, names, plains)",
        "set_root": "(self, root, node)", "set_name": "(self, node, field, target)",
        "set_plain": "(self, node, field, word)", "root_at": "(self, root)", "names_of": "(self, node)",
        "plains_of": "(self, node)", "count_of": "(self, node)", "all_nodes": "(self)", "holes": "(self)",
    },
    ("store", "Store"): {
        "__init__": "(self, buddies, *, lot=2, spare=1, arena=3, limit=4, heap=2, pages=8, slow=0, zone=1)",
        "take": "(self, size, holder, *, align=1, urgent=False)", "give_back": "(self, start, holder)",
        "resize": "(self, start, holder, size)", "pass_to": "(self, start, holder, taker)", "handed": "(self)",
        "heap_beds": "(self)", "settle": "(self)", "tick": "(self)", "first_broken": "(self)",
    },
    ("sessions", "Session"): {
        "__init__": "(self, home)", "do": "(self, request, *, steps=None)", "trial": "(self, request)",
        "run": "(self, requests)", "names_of": "(self, user)", "records": "(self)", "undo": "(self)",
    },
    ("twin", "Twin"): {
        "__init__": "(self, *, fill=0)", "take": "(self, span, holder)", "give_back": "(self, start, holder)",
        "pass_to": "(self, start, holder, taker)", "resize": "(self, start, holder, span)",
        "put": "(self, start, offset, word, holder)", "get": "(self, start, offset, holder)",
        "set_words": "(self, start, holder, words)", "words_of": "(self, start)", "handed": "(self)",
    },
}


def module_of(name):
    return importlib.import_module("allgivenback." + name)


class InterfaceTest(unittest.TestCase):
    def test_functions(self):
        for name, functions in FUNCTIONS.items():
            for function, signature in functions.items():
                found = getattr(module_of(name), function)
                self.assertEqual(found.__module__, "allgivenback." + name)
                self.assertEqual(str(inspect.signature(found)), signature, function)

    def test_classes(self):
        for (name, title), methods in CLASSES.items():
            found = getattr(module_of(name), title)
            self.assertEqual(found.__module__, "allgivenback." + name)
            for method, signature in methods.items():
                # Each method is defined in the class itself.
                self.assertEqual(str(inspect.signature(vars(found)[method])), signature, (title, method))


if __name__ == "__main__":
    unittest.main()
