"""The machine: a program done row by row over a way, its faults and its turns."""

from shadowpages.bounds import REGISTERS, STEPS
from shadowpages.errors import Fault, NoBound
from shadowpages.orders import KINDS, checked
from shadowpages.ways import Plain
from shadowpages.words import both, is_below, odd, plus

# The words of the rows that are done in the kernel's mode alone.
KERNEL_WORDS = ("peek", "poke", "root", "drop", "give", "want", "why", "back", "past", "user")


def do_set(machine, row):
    machine.registers[row[1]] = row[2]


def do_add(machine, row):
    machine.registers[row[1]] = plus(machine.registers[row[1]], machine.registers[row[2]])


def do_both(machine, row):
    machine.registers[row[1]] = both(machine.registers[row[1]], machine.registers[row[2]])


def do_odd(machine, row):
    machine.registers[row[1]] = odd(machine.registers[row[1]], machine.registers[row[2]])


def do_load(machine, row):
    machine.registers[row[1]] = machine.ways.load(machine.registers[row[2]], machine.kernel)


def do_save(machine, row):
    machine.ways.save(machine.registers[row[2]], machine.registers[row[1]], machine.kernel)


def do_tell(machine, row):
    machine.happened.append(("told", machine.registers[row[1]]))


def do_call(machine, row):
    raise Fault("call", 0, 0)


def do_peek(machine, row):
    machine.registers[row[1]] = machine.ways.peek(machine.registers[row[2]])


def do_poke(machine, row):
    machine.ways.poke(machine.registers[row[2]], machine.registers[row[1]])


def do_root(machine, row):
    machine.ways.turn_root(machine.registers[row[1]])


def do_drop(machine, row):
    machine.ways.drop(machine.registers[row[1]])


def do_give(machine, row):
    machine.registers[row[1]] = 1 if machine.ways.give(machine.registers[row[1]]) else 0


def do_want(machine, row):
    machine.registers[row[1]] = 1 if machine.ways.want(machine.registers[row[1]]) else 0


def do_why(machine, row):
    # In this order: where both are one register, it holds the place.
    machine.registers[row[1]] = machine.saved[0]
    machine.registers[row[2]] = machine.saved[1]


# The rows behind which the counter grows by one.
DEEDS = {
    "set": do_set,
    "add": do_add,
    "both": do_both,
    "odd": do_odd,
    "load": do_load,
    "save": do_save,
    "tell": do_tell,
    "call": do_call,
    "peek": do_peek,
    "poke": do_poke,
    "root": do_root,
    "drop": do_drop,
    "give": do_give,
    "want": do_want,
    "why": do_why,
}


def lead_jump(machine, row):
    return row[1]


def lead_nought(machine, row):
    return row[2] if machine.registers[row[1]] == 0 else machine.counter + 1


def lead_halt(machine, row):
    machine.halted = True
    return machine.counter


def lead_back(machine, row):
    machine.kernel = machine.saved[3]
    return machine.saved[2]


def lead_past(machine, row):
    return lead_back(machine, row) + 1


def lead_user(machine, row):
    machine.kernel = False
    return row[1]


# The rows that tell the counter themselves.
LEADS = {
    "jump": lead_jump,
    "nought": lead_nought,
    "halt": lead_halt,
    "back": lead_back,
    "past": lead_past,
    "user": lead_user,
}


def first_core():
    return ([0] * REGISTERS, 0, True, (0, 0, 0, True), False)


class Machine:
    def __init__(self, ways, program, entry, core=None, events=None):
        checked(program, entry)
        self.ways = ways
        self.orders = list(program)
        self.gate = entry
        begun = first_core() if core is None else core
        self.registers = list(begun[0])
        self.kernel = begun[2]
        self.saved = begun[3]
        self.halted = begun[4]
        self.happened = [] if events is None else list(events)
        self.arrive(begun[1])

    def arrive(self, counter):
        self.counter = counter
        if counter >= len(self.orders):
            self.halted = True

    def turn(self, steps):
        if not is_below(steps, STEPS):
            raise NoBound("a turn's steps are no whole number from 0 to 500")
        done = 0
        while done < steps and not self.halted:
            self.step()
            done += 1
        return done

    def step(self):
        try:
            counter = self.obey(self.orders[self.counter])
        except Fault as fault:
            counter = self.fail(fault)
        self.arrive(counter)

    def obey(self, row):
        # Does the row, and tells the counter behind it.
        if row[0] in KERNEL_WORDS and not self.kernel:
            raise Fault("deed", 0, 0)
        if row[0] in LEADS:
            return LEADS[row[0]](self, row)
        DEEDS[row[0]](self, row)
        return self.counter + 1

    def fail(self, fault):
        self.happened.append(("fault", fault.kind, fault.place, fault.level, self.counter))
        # Kinds are numbered from 1 on: 0 is saved where no fault has been.
        self.saved = (KINDS.index(fault.kind) + 1, fault.place, self.counter, self.kernel)
        self.kernel = True
        return self.gate

    def core(self):
        return (list(self.registers), self.counter, self.kernel, self.saved, self.halted)

    def events(self):
        return list(self.happened)

    def told(self):
        return (self.core(), self.ways.root(), self.ways.shelf(), self.ways.pages())

    def program(self):
        return list(self.orders)

    def entry(self):
        return self.gate


def bare(pages, most, program, entry, words):
    return Machine(Plain(pages, most, words), program, entry)
