"""Programs that use each name once (points 91 and 92)."""

from comesapart.errors import ComesapartError, TooLarge
from comesapart.kindtext import BadSign, index_behind, index_behind_name
from comesapart.kinds import check_name

MOST_FUNS = 12
PLAIN_NAMES = "abcdefghijklmnopqrstuvwxyz"


class BoundTwice(ComesapartError):
    """A fun binds a name that an earlier fun binds."""

    def __init__(self, name):
        super().__init__(f"the name {name} is bound twice")
        self.name = name


class UnknownName(ComesapartError):
    """A name is used that no fun around it binds."""

    def __init__(self, name):
        super().__init__(f"the name {name} is not bound")
        self.name = name


class UsedTwice(ComesapartError):
    """A name is used that was used before."""

    def __init__(self, name):
        super().__init__(f"the name {name} is used twice")
        self.name = name


class NotUsed(ComesapartError):
    """The body of a fun does not use the name of the fun."""

    def __init__(self, name):
        super().__init__(f"the name {name} is not used")
        self.name = name


class NotARedex(ComesapartError):
    """There is no redex at the position."""

    def __init__(self, position):
        super().__init__(f"there is no redex at {position}")
        self.position = position


def places_of(program):
    """Return the tuples (position, program there) of the program and of all programs in it, in reading order."""
    found = []
    waiting = [((), program)]
    while waiting:
        position, part = waiting.pop()
        found.append((position, part))
        if part[0] == "fun":
            waiting.append((position + (0,), part[2]))
        elif part[0] == "use":
            waiting.extend([(position + (1,), part[2]), (position + (0,), part[1])])
    return found


def funs_of(program):
    """Return the funs of the program in reading order."""
    return [part for _, part in places_of(program) if part[0] == "fun"]


def check_program(program):
    """Raise the first error of the program in reading order."""
    if len(funs_of(program)) > MOST_FUNS:
        raise TooLarge(MOST_FUNS)
    # Each name that has been bound, and whether a fun around the present place binds it.
    around = {}
    used = {}
    waiting = [program]
    while waiting:
        part = waiting.pop()
        if part[0] == "fun":
            check_binding(part[1], around)
            around[part[1]] = True
            waiting.extend([("end", part[1]), part[2]])
        elif part[0] == "use":
            waiting.extend([part[2], part[1]])
        elif part[0] == "name":
            check_use(part[1], around, used)
            used[part[1]] = True
        else:
            check_end(part[1], used)
            around[part[1]] = False


def check_binding(name, bound):
    """Raise an error if a fun may not bind the name."""
    check_name(name)
    if name in bound:
        raise BoundTwice(name)


def check_use(name, around, used):
    """Raise an error if the name may not be used."""
    check_name(name)
    if not around.get(name, False):
        raise UnknownName(name)
    if name in used:
        raise UsedTwice(name)


def check_end(name, used):
    """Raise an error if the body of the fun that ends has not used its name."""
    if name not in used:
        raise NotUsed(name)


def format_program(program):
    """Return the written form of the program."""
    if program[0] == "name":
        return program[1]
    if program[0] == "fun":
        return "[" + program[1] + " " + format_program(program[2]) + "]"
    return "(" + format_program(program[1]) + " " + format_program(program[2]) + ")"


def parse_program(text):
    """Return the program with this written form."""
    # For each open bracket its fun or use, as far as it has been read.
    brackets = []
    at = 0
    while True:
        while text[at:at + 1] in ("(", "["):
            part, at = read_start(text, at)
            brackets.append(part)
        end = index_behind_name(text, at)
        part, at = (("name", text[at:end]), end)
        while brackets and brackets[-1] != ("use",):
            part = brackets.pop() + (part,)
            at = index_behind(text, at, "]" if part[0] == "fun" else ")")
        if not brackets:
            break
        at = index_behind(text, at, " ")
        brackets[-1] = ("use", part)
    if at < len(text):
        raise BadSign(at)
    check_program(part)
    return part


def read_start(text, at):
    """Return the fun or the use whose bracket stands there in the text, without programs, and the index behind it."""
    if text[at] == "(":
        return (("use",), at + 1)
    end = index_behind_name(text, at + 1)
    return (("fun", text[at + 1:end]), index_behind(text, end, " "))


def redexes(program):
    """Return the positions of all redexes, ascending."""
    return [position for position, part in places_of(program) if part[0] == "use" and part[1][0] == "fun"]


def step_at(program, position):
    """Return the program after the step at the position."""
    if position not in redexes(program):
        raise NotARedex(position)
    return stepped(program, position)


def stepped(program, position):
    """Return the program after the step at the position, where a redex is."""
    if position == ():
        _, (_, name, body), argument = program
        return put_in(body, name, argument)
    at = position[0] + 1 if program[0] == "use" else 2
    return program[:at] + (stepped(program[at], position[1:]),) + program[at + 1:]


def put_in(program, name, argument):
    """Return the program with the argument in the place of the name."""
    if program[0] == "name":
        return argument if program[1] == name else program
    if program[0] == "fun":
        return ("fun", program[1], put_in(program[2], name, argument))
    return ("use", put_in(program[1], name, argument), put_in(program[2], name, argument))


def worked(program, picks):
    """Return the tuple of a normal program and of the number of steps that lead to it as the picks tell."""
    steps = 0
    ready = redexes(program)
    while ready:
        pick = picks[steps] if steps < len(picks) else 0
        program = stepped(program, ready[pick % len(ready)])
        steps += 1
        ready = redexes(program)
    return (program, steps)


def plainly_named(program):
    """Return the program with the names a, b, c and so on in the reading order of its funs."""
    return renamed(program, {fun[1]: PLAIN_NAMES[index] for index, fun in enumerate(funs_of(program))})


def renamed(program, names):
    """Return the program with other names; names is {name: new name}."""
    if program[0] == "name":
        return ("name", names[program[1]])
    if program[0] == "fun":
        return ("fun", names[program[1]], renamed(program[2], names))
    return ("use", renamed(program[1], names), renamed(program[2], names))
