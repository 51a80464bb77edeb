"""The names, arguments and places of what the interface lists, as far as it has landed."""

import importlib
import inspect
import unittest

FUNCTIONS = {
    "everlit.kinds": {
        "is_name": "value", "is_item": "value", "is_light": "value", "is_twin": "value", "is_reserve": "value",
        "signal_of": "item", "twin_of": "name", "reserve_of": "name",
    },
    "everlit.routes": {
        "is_route": "net, value", "ends_of": "net, route", "stations_on": "net, route", "length_of": "net, route",
        "ducts_of": "net, route", "factor_of": "net, route", "width_of": "net, route, rate",
        "routes_between": "net, one, other", "common": "*routes",
    },
    "everlit.layouts": {"layout_fault": "net, band, rates, spots"},
    "everlit.clashes": {"clash": "layout, one, other", "clashing": "layout", "occupants": "layout, index"},
    "everlit.orders": {"order_of": "layout"},
    "everlit.chains": {
        "lows": "layout", "highs": "layout", "settled": "layout", "lifted": "layout", "heaviest_chain": "layout",
        "least_band": "layout", "spread": "one, other",
    },
    "everlit.chaincheck": {"chain_weight": "order, value", "shows_ring": "order, value"},
    "everlit.turned": {"need_alike": "first, goal", "turned": "first, goal"},
    "everlit.slides": {"distance": "first, goal", "slides": "first, goal"},
    "everlit.ticks": {
        "after_tick": "layout, *steps", "envelope": "layout, ticks", "fewest_ticks": "first, goal",
        "schedule": "first, goal", "wait_chain": "first, goal",
    },
    "everlit.tickcheck": {"least_ticks": "first, goal, value"},
    "everlit.rooms": {
        "bars": "layout, wish", "room": "layout, wish", "room_at": "layout, *placed",
        "room_pair": "layout, wish, route",
    },
    "everlit.roomticks": {"soonest": "layout, wish", "narrowed": "layout, band"},
    "everlit.roomcheck": {
        "shows_barred": "layout, wish, value", "shows_throws": "layout, placed, value",
        "shows_not_sooner": "layout, wish, ticks, value", "shows_heavy": "layout, band, value",
    },
    "everlit.moves": {
        "is_move": "value", "barrier": "layout, move", "done": "layout, move", "undone": "layout, move",
        "free_places": "layout, word, name, route, *, rate=None",
    },
    "everlit.plans": {
        "play": "layout, *moves", "stages": "layout, *moves", "plan_fault": "first, goal, value",
        "back": "layout, *moves", "tally": "moves", "hops_in": "moves", "hop": "layout, name, route, place",
        "always_lit": "layout, *moves",
    },
    "everlit.cuts": {
        "struck": "layout, duct", "cut": "layout, duct", "cut_table": "layout", "worst_cuts": "layout",
        "after_cut": "layout, duct",
    },
    "everlit.reserves": {
        "guarded": "layout", "bare": "layout", "shared": "layout", "guard_routes": "layout, name",
        "guard": "layout, name", "shows_unguardable": "layout, name, value",
    },
    "everlit.webs": {
        "fewest_hops": "first, goal, *, routes=None, still=(), limit=200",
        "layers": "first, goal, *, routes=None, still=(), limit=200",
        "sure_hops": "first, goal, *, routes=None, still=(), limit=200",
    },
    "everlit.webcheck": {
        "shows_never": "first, goal, value, *, routes=None, still=()",
        "shows_fewest": "first, goal, value, *, routes=None, still=()",
    },
    "everlit.demands": {"demands": "first, goal", "unmet": "first, goal, counts"},
    "everlit.counts": {"least_counts": "first, goal", "cases": "first, goal"},
    "everlit.countcheck": {"shows_counts": "first, goal, total, value"},
    "everlit.wide": {"movers": "first, goal", "wide_band": "first, goal", "wide_plan": "first, goal"},
    "everlit.formatting": {
        "net_text": "net", "layout_text": "layout", "move_text": "move", "plan_text": "moves",
    },
    "everlit.parsing": {"read_net": "text", "read_layout": "text", "read_move": "text", "read_plan": "text"},
    "everlit.charts": {"chart": "layout", "ticks_chart": "ticks"},
}
CLASSES = {
    ("everlit.nets", "Net"): {
        "__init__": "self, *fibres, reach=()", "__len__": "self", "__getitem__": None, "__contains__": None,
        "duct_of": "self, index", "fibres_in": "self, duct", "__eq__": None, "__str__": "self", "__repr__": "self",
        "read": "text",
    },
    ("everlit.layouts", "Layout"): {
        "__init__": "self, net, band, rates, spots", "__getitem__": None, "width": "self, item",
        "calls": "self, name", "__contains__": None, "__len__": "self", "placed": "self, places",
        "with_item": "self, item, route, place, *, rate=None", "without": "self, *items", "in_band": "self, band",
        "mirrored": "self", "__eq__": None, "is_under": "self, other", "__str__": "self", "__repr__": "self",
        "read": "text",
    },
    ("everlit.orders", "Order"): {
        "__init__": "self, widths, pairs=()", "low": "self, item", "high": "self, item, band",
        "below": "self, item", "above": "self, item", "fits": "self, band", "__or__": None,
        "without": "self, *items", "with_item": "self, item, width, *, below=(), above=()", "__eq__": None,
        "is_part_of": "self, other", "__contains__": None, "__len__": "self", "__repr__": "self",
    },
    ("everlit.states", "Web"): {
        "__init__": "self, net, band, rates, routes, *, still=()",
        "of": "first, goal=None, *, routes=None, still=()", "state_of": "self, layout", "layout_at": "self, state",
        "order_at": "self, state", "__contains__": None, "steps": "self, state",
    },
    ("everlit.plant", "Plant"): {
        "__init__": "self, layout", "do": "self, *moves", "slide_to": "self, goal", "admit": "self, name, rate, route",
        "narrow": "self, band", "protect": "self, name", "cut": "self, duct", "change": "self, **settings",
        "undo": "self, count=1", "trial": "self, deed", "twin": "self", "__eq__": None, "__len__": "self",
        "__repr__": "self",
    },
    ("everlit.plant", "GuardedPlant"): {"do": "self, *moves", "__repr__": "self"},
    ("everlit.desk", "Desk"): {"__init__": "self, text", "say": "self, row"},
}
CLASS_METHODS = {
    ("everlit.nets", "Net"): "read", ("everlit.layouts", "Layout"): "read", ("everlit.states", "Web"): "of",
}
PROPERTIES = {
    ("everlit.nets", "Net"): ("fibres", "stations", "ducts", "reach"),
    ("everlit.layouts", "Layout"): ("net", "band", "rates", "spots", "signals", "doubled"),
    ("everlit.orders", "Order"): ("widths", "members", "pairs", "circle", "weight", "chain"),
    ("everlit.plant", "Plant"): ("layout", "log", "hops"),
}


class InterfaceTest(unittest.TestCase):
    def test_functions(self):
        for module, table in FUNCTIONS.items():
            for name, told in table.items():
                with self.subTest(name=name):
                    found = getattr(importlib.import_module(module), name)
                    self.assertEqual(found.__module__, module)
                    self.assertEqual(str(inspect.signature(found)), f"({told})")

    def test_methods_are_defined_in_the_class_itself(self):
        for (module, name), table in CLASSES.items():
            found = getattr(importlib.import_module(module), name)
            self.assertEqual(found.__module__, module)
            for method, told in table.items():
                with self.subTest(method=method):
                    self.assertIn(method, vars(found))
                    if told is not None:
                        self.assertEqual(str(inspect.signature(getattr(found, method))), f"({told})")

    def test_class_methods(self):
        for (module, name), told in CLASS_METHODS.items():
            found = getattr(importlib.import_module(module), name)
            self.assertIsInstance(vars(found)[told], classmethod)

    def test_properties_cannot_be_assigned(self):
        for (module, name), table in PROPERTIES.items():
            found = getattr(importlib.import_module(module), name)
            for told in table:
                with self.subTest(told=told):
                    self.assertIsInstance(vars(found)[told], property)
                    self.assertIsNone(vars(found)[told].fset)

    def test_slots_can_be_assigned(self):
        found = importlib.import_module("everlit.plant").Plant
        self.assertIsInstance(vars(found)["slots"], property)
        self.assertIsNotNone(vars(found)["slots"].fset)

    def test_a_guarded_plant_is_a_plant(self):
        module = importlib.import_module("everlit.plant")
        self.assertEqual(module.GuardedPlant.__bases__, (module.Plant,))
