"""A second machine, written from the document alone, that the package's machine is compared with."""


class Reference:
    """The machine of [3] to [5], with a method for each thing that a step does."""

    def __init__(self, threads, handler):
        self.codes = threads
        self.handler_code = handler
        self.places = [0] * len(threads)
        self.hands = [0] * len(threads)
        self.current = 0
        self.runs = False
        self.handler_place = 0
        self.handler_hand = 0
        self.cells = [0, 0, 0]
        self.clock = 0
        self.waiting = []
        self.mark = False
        self.alarms_open = True
        self.pending = False

    def state(self):
        return (
            tuple(zip(self.places, self.hands)), self.current,
            (self.handler_place, self.handler_hand) if self.runs else None,
            tuple(self.cells), self.clock, tuple(self.waiting), self.mark, self.alarms_open, self.pending,
        )

    def step(self, world):
        rings, alarms, ticks, word, result, first = world
        if ticks:
            self.clock = [1, 2, 0][self.clock]
        if word is not None:
            self.receive(word)
        if alarms:
            self.pending = True
        if rings and not self.runs:
            self.current += 1
            if self.current == len(self.codes):
                self.current = 0
        if self.pending and self.alarms_open and not self.runs and self.handler_code:
            self.runs, self.pending = True, False
            self.handler_place = self.handler_hand = 0
        return self.instruct_handler(result, first) if self.runs else self.instruct_thread(result, first)

    def receive(self, word):
        if len(self.waiting) >= 2:
            self.mark = True
        else:
            self.waiting.append(word)

    def instruct_handler(self, result, first):
        instruction = self.handler_code[self.handler_place]
        self.handler_hand, target, shown = self.instruct(instruction, self.handler_hand, result, first)
        self.handler_place = self.handler_place + 1 if target is None else target
        if self.handler_place == len(self.handler_code):
            self.runs = False
        return shown

    def instruct_thread(self, result, first):
        who = self.current
        instruction = self.codes[who][self.places[who]]
        self.hands[who], target, shown = self.instruct(instruction, self.hands[who], result, first)
        self.places[who] = self.places[who] + 1 if target is None else target
        if self.places[who] == len(self.codes[who]):
            self.places[who] = 0
        return shown

    def instruct(self, instruction, hand, result, first):
        """Return the hand, the place jumped to or None, and what is shown."""
        word, number = instruction
        return getattr(self, "do_" + word)(number, hand, result, first)

    def do_set(self, number, hand, result, first):
        return number, None, None

    def do_load(self, number, hand, result, first):
        return self.cells[number], None, None

    def do_add(self, number, hand, result, first):
        return [0, 1, 2, 0, 1][hand + self.cells[number]], None, None

    def do_save(self, number, hand, result, first):
        self.cells[number] = hand
        return hand, None, None

    def do_first(self, number, hand, result, first):
        self.cells[number] = first
        return hand, None, None

    def do_jump(self, number, hand, result, first):
        return hand, number if hand == 0 else None, None

    def do_show(self, number, hand, result, first):
        return hand, None, hand

    def do_shut(self, number, hand, result, first):
        self.alarms_open = False
        return hand, None, None

    def do_open(self, number, hand, result, first):
        self.alarms_open = True
        return hand, None, None

    def do_time(self, number, hand, result, first):
        return self.clock, None, None

    def do_take(self, number, hand, result, first):
        return self.waiting.pop(0) if self.waiting else 0, None, None

    def do_count(self, number, hand, result, first):
        return len(self.waiting), None, None

    def do_spilt(self, number, hand, result, first):
        was, self.mark = self.mark, False
        return int(was), None, None

    def do_call(self, number, hand, result, first):
        return result, None, None
