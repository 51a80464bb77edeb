"""Promises [6] to [8], [11], [13], [18], [21] over the whole program: plants and desks led for long."""

import unittest

from everlit.chains import least_band, lifted, settled
from everlit.cuts import after_cut, cut
from everlit.desk import Desk
from everlit.errors import Barred, InvalidBand, LightError, NoDuct, NotAllowed, NothingToUndo
from everlit.formatting import layout_text, move_text, plan_text
from everlit.layouts import Layout
from everlit.orders import order_of
from everlit.parsing import read_plan
from everlit.plans import hops_in, play
from everlit.plant import GuardedPlant, Plant
from everlit.reserves import guard
from everlit.rooms import room
from everlit.roomticks import narrowed, soonest
from everlit.slides import slides
from everlit.ticks import after_tick, schedule, wait_chain
from everlit.tickcheck import least_ticks
from everlit.webs import fewest_hops
from everlit.wide import wide_plan
from tests import oracle
from tests.samples import generator
from tests.test_layout_methods import random_layout
from tests.test_moves import behind, random_move, word_by_document
from tests.test_states import some_webs
from tests.test_wide import some_pairs
from tests.trying import every_route


class Model:
    """A plain model of a plant: the spots, what was guarded, and all earlier moments."""

    def __init__(self, layout, guarded):
        self.net = layout.net
        self.is_guarded = guarded
        self.band, self.rates, self.spots = layout.band, layout.rates, layout.spots
        self.log = []
        self.had = self.reserves()
        self.past = []

    def reserves(self):
        return {item[:-1] for item in self.spots if item.endswith("*")}

    def layout(self):
        return Layout(self.net, self.band, self.rates, self.spots)

    def now(self):
        return (self.band, dict(self.rates), dict(self.spots), list(self.log), set(self.had))

    def remember(self):
        self.past.append(self.now())

    def go_back(self, moment):
        self.band, self.rates, self.spots, self.log, self.had = moment
        self.rates, self.spots, self.log, self.had = dict(self.rates), dict(self.spots), list(self.log), set(self.had)

    def take(self, layout):
        self.band, self.rates, self.spots = layout.band, layout.rates, layout.spots
        self.had |= self.reserves()

    def do(self, moves):
        """Does moves one by one; returns None or the index and the word of the first that is not allowed."""
        before = self.now()
        for index, move in enumerate(moves):
            word = word_by_document(self.layout(), move)
            if word is None:
                self.rates, self.spots = behind(self.layout(), move)
                if move[0] == "end":
                    self.had.discard(move[1])
                if self.is_guarded and self.had - self.reserves():
                    word = "guard"
                self.had |= self.reserves()
            if word is not None:
                self.go_back(before)
                return (index, word)
            self.log.append(move)
        self.past.append(before)
        return None

    def cut(self, duct):
        self.remember()
        self.take(after_cut(self.layout(), duct)[0])
        self.had = self.reserves()
        self.log.append(("cut", duct))

    def undo(self, count):
        self.go_back(self.past[-count])
        del self.past[-count:]


class LedTest(unittest.TestCase):
    def holds(self, layout):
        """What holds at every moment: [6] to [8]."""
        net, rates, spots = layout.net, layout.rates, layout.spots
        self.assertIsNone(oracle.fault(net, layout.band, rates, spots))
        self.assertIs(oracle.survives(net, rates, spots), True)
        for duct in net.ducts:
            lit = {oracle.name_of(item) for item in cut(layout, duct)[0]}
            for name in rates:
                if name + "*" in spots:
                    self.assertIn(name, lit)

    def same(self, plant, model):
        self.assertEqual(plant.layout, model.layout())
        self.assertEqual(plant.log, tuple(model.log))
        self.assertEqual((len(plant), plant.slots), (len(model.log), model.band))
        self.assertEqual(plant.hops, sum(entry[0] == "light" for entry in model.log))

    def one_call(self, rng, plant, model):
        """One drawn call, of the plant and of the model; returns its name if it did not raise."""
        layout = model.layout()
        kind = rng.choice(["do", "do", "do", "slide_to", "admit", "narrow", "protect", "cut", "slots", "change",
                           "undo", "undo", "trial"])
        return kind if getattr(self, "call_" + kind)(rng, plant, model, layout) else None

    def call_do(self, rng, plant, model, layout):
        moves = []
        for _ in range(rng.choice([0, 1, 1, 2, 3])):
            moves.append(random_move(rng, layout))
            layout = play(layout, moves[-1]) if word_by_document(layout, moves[-1]) is None else layout
        if rng.random() < 0.7:
            # Mostly moves that are all allowed.
            told, layout = [], model.layout()
            for move in moves:
                if word_by_document(layout, move) is None:
                    layout = play(layout, move)
                    told.append(move)
            moves = told
        wrong = model.do(moves)
        if wrong is None:
            self.assertEqual(plant.do(*moves) if rng.random() < 0.5 else plant.do(moves), len(model.log))
            return True
        with self.assertRaises(NotAllowed) as caught:
            plant.do(moves)
        self.assertEqual((caught.exception.index, caught.exception.word), wrong)
        return False

    def call_slide_to(self, rng, plant, model, layout):
        goal = rng.choice([settled, lifted])(layout)
        told = list(slides(layout, goal))
        self.assertEqual(plant.slide_to(goal), len(told))
        ticks = schedule(layout, goal)
        chain = wait_chain(layout, goal)
        if chain is not None:
            self.assertEqual(least_ticks(layout, goal, chain), len(ticks))
        for tick in ticks:
            layout = after_tick(layout, *tick)
            self.holds(layout)
        self.assertEqual(layout, goal)
        model.remember()
        model.take(goal)
        model.log += told
        return True

    def call_admit(self, rng, plant, model, layout):
        wish = (rng.choice("newxyz"), rng.choice(every_route(layout.net)), rng.randint(1, 3))
        try:
            answer = room(layout, wish)
        except LightError as wrong:
            with self.assertRaises(type(wrong)) as caught:
                plant.admit(wish[0], wish[2], wish[1])
            self.assertEqual(caught.exception.word, wrong.word)
            return False
        if answer[0] == "barred":
            with self.assertRaises(Barred) as caught:
                plant.admit(wish[0], wish[2], wish[1])
            self.assertEqual(caught.exception.certificate, answer[1])
            return False
        self.assertEqual(plant.admit(wish[0], wish[2], wish[1]), answer[1])
        self.assertEqual(plant.log[:len(model.log)], tuple(model.log))
        told = plant.log[len(model.log):]
        self.assertEqual(told[-1], ("begin", wish[0], wish[2], wish[1], answer[1]))
        return self.follow(model, layout, told)

    def follow(self, model, layout, told):
        """Lets the model do slides and a last move that the plant has chosen."""
        aside = play(layout, *told[:-1])
        self.assertEqual(tuple(slides(layout, aside)), told[:-1])
        model.remember()
        model.take(play(aside, told[-1]))
        model.log += told
        return True

    def call_narrow(self, rng, plant, model, layout):
        band = rng.choice([layout.band, layout.band - 1, least_band(layout), least_band(layout) - 1, 0])
        if not 1 <= band <= layout.band:
            with self.assertRaises(InvalidBand):
                plant.narrow(band)
            return False
        answer = narrowed(layout, band)
        if answer[0] == "chain":
            with self.assertRaises(Barred) as caught:
                plant.narrow(band)
            self.assertEqual(caught.exception.certificate, answer[1])
            return False
        self.assertEqual(plant.narrow(band), answer[1])
        model.remember()
        model.log += list(slides(layout, answer[2].in_band(layout.band))) + [("band", band)]
        model.take(answer[2])
        return True

    def call_protect(self, rng, plant, model, layout):
        if not layout.signals:
            return False
        name = rng.choice(layout.signals)
        answer = guard(layout, name)
        if answer[0] == "barred":
            with self.assertRaises(Barred) as caught:
                plant.protect(name)
            self.assertEqual(caught.exception.certificate, answer[1])
            return False
        self.assertEqual(plant.protect(name), answer[1])
        told = plant.log[len(model.log):]
        word = "move" if name + "*" in layout else "guard"
        self.assertEqual(told[-1], (word, name, answer[1], answer[2]))
        return self.follow(model, layout, told)

    def call_cut(self, rng, plant, model, layout):
        if rng.random() < 0.6:
            with self.assertRaises(NoDuct):
                plant.cut("zz")
            return False
        duct = rng.choice(layout.net.ducts)
        self.assertEqual(plant.cut(duct), cut(layout, duct)[2])
        model.cut(duct)
        return True

    def call_slots(self, rng, plant, model, layout):
        band = rng.choice([layout.band, layout.band + 1, 0, 65, 1, 12])
        least = max([spot[1] + layout.width(item) for item, spot in layout.spots.items()], default=1)
        if not max(1, least) <= band <= 64:
            with self.assertRaises(InvalidBand):
                plant.slots = band
            return False
        if rng.random() < 0.5:
            plant.slots = band
        else:
            plant.change(slots=band)
        model.remember()
        model.band = band
        model.log.append(("band", band))
        return True

    def call_change(self, rng, plant, model, layout):
        plant.change()
        model.remember()
        return True

    def call_undo(self, rng, plant, model, layout):
        count = rng.choice([1, 1, 1, 2, 3, 6, len(model.past), len(model.past) + 1])
        if not 1 <= count <= len(model.past):
            with self.assertRaises(NothingToUndo):
                plant.undo(count)
            return False
        model.undo(count)
        self.assertEqual(plant.undo() if count == 1 else plant.undo(count), len(model.log))
        return True

    def call_trial(self, rng, plant, model, layout):
        def deed(told):
            self.assertIs(told, plant)
            moment, past = model.now(), list(model.past)
            for _ in range(4):
                self.one_call(rng, told, model)
            self.same(told, model)
            model.go_back(moment)
            model.past = past
            if rng.random() < 0.3:
                raise KeyError("again")
            return "done"

        try:
            self.assertEqual(plant.trial(deed), "done")
        except KeyError as wrong:
            self.assertEqual(wrong.args, ("again",))
        return True

    def test_plants_beside_a_model(self):
        count = {}
        for seed in range(16):
            rng = generator(300 + seed)
            made = (Plant, GuardedPlant)[seed & 1]
            layout = random_layout(rng, rng.randint(6, 9))
            plant, model = made(layout), Model(layout, made is GuardedPlant)
            for step in range(60):
                kind = self.one_call(rng, plant, model)
                count[kind] = count.get(kind, 0) + 1
                self.same(plant, model)
                self.holds(plant.layout)
                if step % 20 == 19:
                    other = plant.twin()
                    self.assertTrue(other == plant)
                    other.change(slots=64)
                    self.same(plant, model)
            while model.past:
                plant.undo()
                model.undo(1)
                self.same(plant, model)
            self.assertEqual(plant, made(layout))
        self.assertGreater(min(many for kind, many in count.items() if kind != "cut"), 10)
        self.assertEqual(len(count), 11)

    def test_guards_against_the_words_of_the_document(self):
        refused = 0
        for seed in range(60):
            rng = generator(400 + seed)
            layout = random_layout(rng, 8)
            plant, model = GuardedPlant(layout), Model(layout, True)
            for _ in range(25):
                name = rng.choice([*model.layout().signals, "zz"])
                told = rng.choice([
                    ("drop", name), ("drop", name), ("end", name), random_move(rng, model.layout()),
                    random_move(rng, model.layout())])
                if rng.random() < 0.2:
                    self.one_call(rng, plant, model)
                else:
                    wrong = model.do([told])
                    refused += wrong == (0, "guard")
                    try:
                        plant.do(told)
                        self.assertIsNone(wrong)
                    except NotAllowed as caught:
                        self.assertEqual((caught.index, caught.word), wrong)
                self.same(plant, model)
        self.assertGreater(refused, 30)


class PlansTest(unittest.TestCase):
    """What one module returns is what the others take."""

    def done(self, first, goal, moves):
        """Does a plan in a plant and at a desk, and looks at each moment on the way."""
        plant, desk = GuardedPlant(first), Desk(layout_text(first))
        for move in read_plan(plan_text(moves)):
            plant.do(move)
            self.assertEqual(desk.say(move_text(move)), "ok")
            self.assertIs(oracle.survives(first.net, plant.layout.rates, plant.layout.spots), True)
        self.assertEqual((plant.log, plant.hops), (tuple(moves), hops_in(moves)))
        self.assertEqual(desk.plant.layout, plant.layout)
        if goal is not None:
            self.assertEqual(plant.layout, goal)
            if moves:
                plant.undo(len(moves))
            self.assertEqual(plant.do(*moves), len(moves))
            self.assertEqual(plant.layout, goal)
        return plant

    def test_fewest_hops(self):
        rng = generator(600)
        count = 0
        for first, routes, still in some_webs(601, 40):
            for goal in (settled(first), ("band", max(1, least_band(first) - 1)), ("off", rng.choice(first.net.ducts))):
                answer = fewest_hops(first, goal, routes=routes, still=still, limit=500)
                if answer[0] == "plan":
                    plant = self.done(first, goal if isinstance(goal, Layout) else None, answer[2])
                    count += answer[1] > 0
                    if not isinstance(goal, Layout) and goal[0] == "band":
                        plant.narrow(goal[1])
        self.assertGreater(count, 8)

    def test_room_behind_hops(self):
        count = 0
        for first, routes, still in some_webs(602, 60):
            wish = ("new", first["a"][0] if "a" in first else (0,), 2)
            answer = fewest_hops(first, ("room", wish), routes=routes, still=still, limit=500)
            if answer[0] == "plan":
                plant = self.done(first, None, answer[2])
                count += answer[1] > 0
                place = plant.admit(wish[0], wish[2], wish[1])
                self.assertEqual(plant.layout["new"], (wish[1], place))
        self.assertGreater(count, 2)

    def test_wide_plans(self):
        for first, goal in some_pairs(603, 12, most=4):
            rise, fall = wide_plan(first, goal)
            self.done(first, goal, rise + fall)


class DeskTest(unittest.TestCase):
    def drawn(self, rng, layout):
        """A row, mostly one that the desk knows, with the call of a plant that it stands for."""
        route = rng.choice(every_route(layout.net))
        name, rate = rng.choice("newxyz"), rng.randint(1, 4)
        duct = rng.choice([*layout.net.ducts, "zz"])
        told = rng.choice([*layout.signals, "zz"])
        words = f"{name} {rate} {','.join(map(str, route))}"
        move = random_move(rng, layout)
        band = max(1, rng.choice([layout.band, least_band(layout), least_band(layout) - 1]))
        return rng.choice([
            (move_text(move), lambda plant: self.moved(plant, move)),
            (move_text(move), lambda plant: self.moved(plant, move)),
            ("undo", lambda plant: plant.undo() * 0 or "ok"),
            ("show", lambda plant: " | ".join(layout_text(plant.layout).split("\n"))),
            ("order", lambda plant: " ".join("<".join(pair) for pair in order_of(plant.layout).pairs) or "-"),
            ("weight", lambda plant: str(order_of(plant.layout).weight)),
            (f"room {words}", lambda plant: self.placed(room(plant.layout, (name, route, rate)))),
            (f"soon {words}", lambda plant: self.placed(soonest(plant.layout, (name, route, rate)))),
            (f"admit {words}", lambda plant: self.tried(plant.admit, name, rate, route)),
            (f"guard {told}", lambda plant: self.guarded(plant, told)),
            (f"cut {duct}", lambda plant: " ".join(plant.cut(duct)) or "-"),
            (f"strikes {duct}", lambda plant: self.struck(plant, duct)),
            (f"narrow {band}", lambda plant: self.narrowed(plant, band)),
            ("log", lambda plant: f"{len(plant.log)} {sum(entry[0] == 'light' for entry in plant.log)}"),
        ])

    def moved(self, plant, move):
        plant.do(move)
        return "ok"

    def placed(self, answer):
        if answer[0] == "barred":
            return " ".join(["barred", *[row[0] for row in answer[1]]])
        return f"room {answer[1]}" if answer[0] == "room" else f"{answer[1]} {answer[2]}"

    def tried(self, call, *told):
        try:
            return str(call(*told))
        except Barred as wrong:
            return " ".join(["barred", *[row[0] for row in wrong.certificate]])

    def guarded(self, plant, name):
        try:
            return ",".join(map(str, plant.protect(name)))
        except Barred:
            return "barred"

    def struck(self, plant, duct):
        if duct not in plant.layout.net.ducts:
            raise NoDuct(duct)
        names = [name for name in plant.layout.signals if duct in plant.layout.calls(name)]
        return " ".join(names) or "-"

    def narrowed(self, plant, band):
        try:
            return str(plant.narrow(band))
        except Barred as wrong:
            return " ".join(["heavy", *wrong.certificate])

    def test_desks_beside_a_plant(self):
        count = {}
        for seed in range(12):
            rng = generator(500 + seed)
            layout = random_layout(rng, rng.randint(6, 9))
            desk, plant = Desk(layout_text(layout)), Plant(layout)
            kept = desk.plant
            for _ in range(70):
                row, call = self.drawn(rng, plant.layout)
                try:
                    told = call(plant)
                except (LightError, LookupError) as wrong:
                    with self.assertRaises(type(wrong)) as caught:
                        desk.say(row)
                    self.assertEqual(vars(caught.exception), vars(wrong))
                else:
                    self.assertEqual(desk.say(row), told)
                    word = row.split(" ")[0] + (" barred" if told.split(" ")[0] in ("barred", "heavy") else "")
                    count[word] = count.get(word, 0) + 1
                self.assertIs(desk.plant, kept)
                self.assertTrue(desk.plant == plant)
                self.assertIs(oracle.survives(layout.net, plant.layout.rates, plant.layout.spots), True)
        for word in ("slide", "undo", "show", "order", "weight", "room", "room barred", "soon", "admit", "admit barred",
                     "guard", "guard barred", "cut", "strikes", "narrow", "narrow barred", "log"):
            self.assertGreater(count.get(word, 0), 2, word)
