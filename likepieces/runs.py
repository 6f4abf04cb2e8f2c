"""Runs: what an expression comes to by names, boxes and inputs, and what is told of that.

What is still to be done waits in a list, so that a run goes as deep as its program does
without recursion.
"""

from likepieces.trees import GREATEST_VALUE, parts

BEGIN = "begin"
END = "end"
LEAVE = "leave"


class Machine:
    """A run under way."""

    def __init__(self, program, held, boxes, inputs):
        self.functions = {name: (params, body) for name, params, body in program[0]}
        self.frames = [frame_of(held)]
        self.boxes = dict(boxes)
        self.inputs = inputs
        self.taken = 0
        self.said = []
        self.come = []
        self.waiting = []
        self.fault = ""


def frame_of(held):
    """For each held name the list of its values, the one that is read last, as a dict."""
    return {name: [number] for name, number in held}


def wait(machine, deed, pieces):
    """These pieces are next to be begun, in order, and behind them the deed, a pair, is due."""
    machine.waiting.append(deed)
    machine.waiting.extend([(BEGIN, part) for part in pieces[::-1]])


def keep_last(machine, many):
    """Of so many values that were come to last the last one alone stays."""
    come = machine.come
    last = come[-1]
    del come[len(come) - many:]
    come.append(last)


def begin_num(machine, node):
    """A num is come to."""
    machine.come.append(node[1])


def begin_name(machine, node):
    """What a name holds is come to, or what its box does."""
    bound = machine.frames[-1].get(node[1])
    machine.come.append(bound[-1] if bound else machine.boxes.get(node[1], 0))


def begin_take(machine, node):
    """The next input is taken."""
    if machine.taken == len(machine.inputs):
        machine.fault = "dry"
    else:
        machine.come.append(machine.inputs[machine.taken])
        machine.taken += 1


def begin_all(machine, node):
    """All parts are to be done."""
    wait(machine, (END, node), parts(node))


def begin_first(machine, node):
    """The first part is to be done; what comes behind it hangs on its value."""
    wait(machine, (END, node), parts(node)[:1])


def begin_again(machine, node):
    """The part is to be done some times; 0 is come to where that is none."""
    machine.come.append(0)
    wait(machine, (END, node), parts(node) * node[1])


def op_value(sign, first, second):
    """What an op with this sign comes to; a quotient is not by 0."""
    if sign == "+":
        return (first + second) % (GREATEST_VALUE + 1)
    if sign == "-":
        return (first - second) % (GREATEST_VALUE + 1)
    if sign == "*":
        return first * second % (GREATEST_VALUE + 1)
    if sign == "/":
        return first // second
    holds = first < second if sign == "<" else first == second
    return 1 if holds else 0


def end_op(machine, node):
    """Both parts are done."""
    second = machine.come.pop()
    first = machine.come.pop()
    if node[1] == "/" and second == 0:
        machine.fault = "nought"
    else:
        machine.come.append(op_value(node[1], first, second))


def end_pick(machine, node):
    """The first part is done; one of the others is next."""
    test, other, another = parts(node)
    chosen = another if machine.come.pop() == 0 else other
    machine.waiting.append((BEGIN, chosen))


def end_let(machine, node):
    """The first part is done; the name holds its value while the second one is done."""
    machine.frames[-1].setdefault(node[1], []).append(machine.come.pop())
    wait(machine, (LEAVE, node), parts(node)[1:])


def leave_let(machine, node):
    """The second part is done; the name holds what it held ahead."""
    machine.frames[-1][node[1]].pop()


def end_set(machine, node):
    """The part is done; the box holds its value."""
    machine.boxes[node[1]] = machine.come[-1]


def end_say(machine, node):
    """The part is done; its value is said."""
    machine.said.append(machine.come[-1])


def end_do(machine, node):
    """All parts are done; the last one's value counts."""
    keep_last(machine, len(parts(node)))


def end_again(machine, node):
    """The part was done as often as told; the last value counts."""
    keep_last(machine, node[1] + 1)


def end_call(machine, node):
    """The parts are done; the body is next, in a frame with nothing but the params."""
    params, body = machine.functions[node[1]]
    come = machine.come
    start = len(come) - len(params)
    machine.frames.append(frame_of(list(zip(params, come[start:]))))
    del come[start:]
    wait(machine, (LEAVE, node), (body,))


def leave_call(machine, node):
    """The body is done; names hold again what they held for the caller."""
    machine.frames.pop()


DEEDS = {
    ("begin", "num"): begin_num,
    ("begin", "name"): begin_name,
    ("begin", "take"): begin_take,
    ("begin", "op"): begin_all,
    ("begin", "set"): begin_all,
    ("begin", "say"): begin_all,
    ("begin", "do"): begin_all,
    ("begin", "call"): begin_all,
    ("begin", "pick"): begin_first,
    ("begin", "let"): begin_first,
    ("begin", "again"): begin_again,
    ("end", "op"): end_op,
    ("end", "set"): end_set,
    ("end", "say"): end_say,
    ("end", "do"): end_do,
    ("end", "call"): end_call,
    ("end", "pick"): end_pick,
    ("end", "let"): end_let,
    ("end", "again"): end_again,
    ("leave", "let"): leave_let,
    ("leave", "call"): leave_call,
}


def outcome(machine):
    """What is told of a run that has ended."""
    result = ("fault", machine.fault) if machine.fault else ("value", machine.come[-1])
    boxes = [(name, machine.boxes[name]) for name in sorted(machine.boxes) if machine.boxes[name] != 0]
    return (result, tuple(machine.said), tuple(boxes), machine.taken)


def done(program, e, held, boxes, inputs):
    """The outcome of an expression by the program's functions, held names, boxes and inputs."""
    machine = Machine(program, held, boxes, inputs)
    machine.waiting.append((BEGIN, e))
    while machine.waiting and not machine.fault:
        phase, node = machine.waiting.pop()
        deed = DEEDS[(phase, node[0])]
        deed(machine, node)
    return outcome(machine)


def run(program, inputs):
    """The outcome of the program's main by inputs."""
    return done(program, program[1], (), (), inputs)
