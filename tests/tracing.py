"""A second machine that writes down its instructions, and carries an origin along with each of its numbers."""

from tests.reference import Reference


class Traced(Reference):
    """Keeps, beside each number, the set of the pairs of a step and a kind from which it comes."""

    def __init__(self, threads, handler):
        super().__init__(threads, handler)
        self.steps = 0
        self.log = []
        self.sources = {}
        self.queue = []

    def source(self, name):
        return self.sources.get(name, frozenset())

    def step(self, world):
        """Return what the step shows, and its origin, None if it shows nothing."""
        self.here = self.steps
        self.steps += 1
        if world[2]:
            self.sources["clock"] = self.source("clock") | {(self.here, "ticks")}
        did_run = self.runs
        self.fresh = not did_run
        shown = super().step(world)
        return shown, (None if shown is None else self.shown_source)

    def receive(self, word):
        came = frozenset({(self.here, "words")})
        if len(self.waiting) == 2:
            self.sources["mark"] = self.source("mark") | came
        else:
            self.queue.append(came)
        super().receive(word)

    def instruct_handler(self, result, first):
        if self.fresh:
            self.sources["handler"] = frozenset()
        self.who = "handler"
        return super().instruct_handler(result, first)

    def instruct_thread(self, result, first):
        self.who = self.current
        return super().instruct_thread(result, first)

    def instruct(self, instruction, hand, result, first):
        self.log.append(instruction)
        word, number = instruction
        held = self.source(self.who)
        if word == "show":
            self.shown_source = held
        self.sources[self.who] = self.brought(word, number, held, result)
        if word == "save":
            self.sources["cell", number] = held
        if word == "first":
            self.sources["cell", number] = frozenset({(self.here, "firsts")} if first else ())
        if word == "spilt":
            self.sources["mark"] = frozenset()
        return super().instruct(instruction, hand, result, first)

    def brought(self, word, number, held, result):
        gives = {
            "set": lambda: frozenset(),
            "load": lambda: self.source(("cell", number)),
            "add": lambda: held | self.source(("cell", number)),
            "time": lambda: self.source("clock"),
            "take": lambda: self.queue.pop(0) if self.queue else frozenset(),
            "count": lambda: frozenset().union(*self.queue),
            "spilt": lambda: self.source("mark"),
            "call": lambda: frozenset({(self.here, "results")} if result else ()),
        }
        return gives[word]() if word in gives else held
