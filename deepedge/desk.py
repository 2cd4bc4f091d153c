"""A desk: commands on a problem."""

from deepedge.building import build
from deepedge.cards import card_of
from deepedge.errors import InvalidStack, NoMember, NoName, NothingToUndo, ParseError, TooMany, UnknownCommand
from deepedge.floors import floors
from deepedge.formatting import card_text, certificate_text, numbers_text, shuffle_text, stack_text
from deepedge.layers import shortest
from deepedge.layouts import layout_for
from deepedge.losses import pop_loses
from deepedge.machine import run
from deepedge.problem import Problem
from deepedge.reading import shuffle_of_words, stack_of_words, written_number
from deepedge.realize import tidied
from deepedge.targets import count_targets, target_at, target_index
from deepedge.values import MOST_CELLS, is_value

MOST_SAVED = 6
MOST_COUNTED = 60
MOST_LETTERS_AT = 6
MOST_SHORTEST = 5

# What stands behind the name of each command. Behind "build" a number may stand or not.
FORMS = {
    "reach": "number", "start": "values", "goal": "values", "run": "code", "solve": "nothing", "save": "name",
    "load": "name", "undo": "nothing", "problem": "nothing", "saved": "nothing", "answer": "nothing",
    "depth": "nothing", "least": "nothing", "floors": "nothing", "build": "perhaps", "card": "code", "tidy": "code",
    "count": "number", "index": "nothing", "at": "number", "loses": "nothing", "shortest": "nothing",
    "layout": "values",
}


def _read_command(command):
    """Return the name that the command, any value, begins with, and what stands behind it, or None for nothing."""
    if not isinstance(command, str):
        raise UnknownCommand(command)
    name, *words = command.split(" ")
    if name not in FORMS or not _has_length(FORMS[name], len(words)):
        raise UnknownCommand(command)
    return name, _argument(FORMS[name], words)


def _has_length(form, count):
    """Tell whether so many words can stand behind the name of a command of this form."""
    if form == "nothing":
        return count == 0
    if form == "perhaps":
        return count <= 1
    if form == "values" or form == "code":
        return count >= 1
    return count == 1


def _argument(form, words):
    """Return what the words tell behind the name of a command of this form."""
    if words == []:
        return None
    if form == "values":
        return stack_of_words(words, 0, 1)
    if form == "code":
        return shuffle_of_words(words, 1)
    if form == "name":
        told = words[0] if is_value(words[0]) else None
    else:
        told = written_number(words[0])
    if told is None:
        raise ParseError(0, 1)
    return told


# Each of the next functions executes a command that changes the desk. It is passed the problem, the saved stacks and
# the argument of the command, and returns the new problem, the new saved stacks and the output.

def _set_reach(problem, saved, number):
    return Problem(problem.start, problem.goal, reach=number), saved, "ok"


def _set_start(problem, saved, stack):
    return _started(problem, stack), saved, "ok"


def _set_goal(problem, saved, stack):
    return Problem(problem.start, stack, reach=problem.reach), saved, "ok"


def _run(problem, saved, code):
    stack = run(problem.start, code, reach=problem.reach)
    if len(stack) > MOST_CELLS:
        raise InvalidStack(MOST_CELLS)
    return _started(problem, stack), saved, stack_text(stack)


def _solve(problem, saved, _):
    told = shuffle_text(problem.shuffle())
    return _started(problem, problem.goal), saved, told


def _save(problem, saved, name):
    if name not in saved and len(saved) == MOST_SAVED:
        raise TooMany(MOST_SAVED)
    stack = problem.start
    return problem, {**saved, name: stack}, "ok"


def _load(problem, saved, name):
    if name not in saved:
        raise NoName(name)
    return _started(problem, saved[name]), saved, "ok"


def _started(problem, stack):
    """Return the problem with another start."""
    return Problem(stack, problem.goal, reach=problem.reach)


# Each of the next functions executes a command that only tells something. It is passed the same and returns the output.

def _tell_problem(problem, saved, _):
    return str(problem).replace("\n", " | ")


def _tell_saved(problem, saved, _):
    return stack_text(sorted(saved))


def _tell_answer(problem, saved, _):
    word, found = problem.answer
    if word == "reached":
        return f"reached {found}"
    return f"blocked {certificate_text(found)}"


def _tell_depth(problem, saved, _):
    return str(problem.goal_depth)


def _tell_least(problem, saved, _):
    least = problem.least
    return "-" if least is None else str(least)


def _tell_floors(problem, saved, _):
    return numbers_text(floors(problem.start, problem.goal, reach=problem.reach))


def _tell_build(problem, saved, floor):
    return shuffle_text(build(problem.start, problem.goal, reach=problem.reach, floor=floor))


def _tell_card(problem, saved, code):
    return card_text(card_of(code))


def _tell_tidy(problem, saved, code):
    return shuffle_text(tidied(code))


def _tell_count(problem, saved, height):
    if height > MOST_COUNTED:
        raise TooMany(MOST_COUNTED)
    return str(count_targets(problem.start, height, reach=problem.reach))


def _tell_index(problem, saved, _):
    return str(target_index(problem.start, problem.goal, reach=problem.reach))


def _tell_at(problem, saved, index):
    if len(set(problem.start)) > MOST_LETTERS_AT:
        raise TooMany(MOST_LETTERS_AT)
    return stack_text(target_at(problem.start, len(problem.goal), index, reach=problem.reach))


def _tell_loses(problem, saved, _):
    found = pop_loses(problem.start, reach=problem.reach) if problem.start != () else None
    if found is None:
        return "-"
    height, target = found
    return f"{height}: {stack_text(target)}"


def _tell_shortest(problem, saved, _):
    if max(len(problem.start), len(problem.goal)) > MOST_SHORTEST:
        raise TooMany(MOST_SHORTEST)
    return shuffle_text(shortest(problem.start, problem.goal, reach=problem.reach)[0])


def _tell_layout(problem, saved, wanted):
    if saved == {}:
        raise NoMember(0)
    stacks, reach = [saved[name] for name in sorted(saved)], problem.reach
    word, found = layout_for(*stacks, wanted=wanted, reach=reach)
    if word == "barred":
        return word
    return f"layout {stack_text(found)}"


CHANGES = {
    "reach": _set_reach, "start": _set_start, "goal": _set_goal, "run": _run, "solve": _solve, "save": _save,
    "load": _load,
}
TELLERS = {
    "problem": _tell_problem, "saved": _tell_saved, "answer": _tell_answer, "depth": _tell_depth,
    "least": _tell_least, "floors": _tell_floors, "build": _tell_build, "card": _tell_card, "tidy": _tell_tidy,
    "count": _tell_count, "index": _tell_index, "at": _tell_at, "loses": _tell_loses, "shortest": _tell_shortest,
    "layout": _tell_layout,
}


class Desk:
    """Executes commands on a problem, and saves stacks by names."""

    def __init__(self, text=""):
        self._problem = Problem() if text == "" else Problem.read(text)
        self._saved = {}
        # For each command that can be taken back: its name, and the problem and the saved stacks before it.
        self._past = []

    def execute(self, command):
        """Execute the command, any value, and return the output."""
        name, argument = _read_command(command)
        if name == "undo":
            return self._undo()
        if name in TELLERS:
            teller = TELLERS[name]
            return teller(self._problem, self._saved, argument)
        change = CHANGES[name]
        problem, saved, told = change(self._problem, self._saved, argument)
        self._past.append((name, self._problem, self._saved))
        # Both are new objects or the same ones: no command changes what another one left.
        self._problem, self._saved = problem, saved
        return told

    def _undo(self):
        """Take back the last command that changed the desk and return its name."""
        if self._past == []:
            raise NothingToUndo(1)
        name, self._problem, self._saved = self._past.pop()
        return name
