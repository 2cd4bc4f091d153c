"""Running instructions, and machines that remember what they did."""

from deepedge.errors import Fault, NoName, NothingToUndo, ParseError, TooHigh
from deepedge.formatting import stack_text
from deepedge.instructions import cells_needed, height_change, is_instruction, listed, perform
from deepedge.reading import stack_of_words, text_words, written_number
from deepedge.values import check_reach, check_stack, is_integer, is_reach

MOST_HEIGHT = 640


def run(stack, *parts, reach=16):
    """Return the stack after the instructions of the parts."""
    cells = list(stack)
    for index, item in enumerate(listed(parts)):
        perform_item(cells, index, item, reach)
    return tuple(cells)


def trace(stack, *parts, reach=16):
    """Yield the stack, and then the stack after each instruction of the parts."""
    cells = list(stack)
    yield tuple(cells)
    for index, item in enumerate(listed(parts)):
        perform_item(cells, index, item, reach)
        yield tuple(cells)


def lowest_height(stack, *parts, reach=16):
    """Return the least height that the stack has on the way, the start included."""
    return min([len(cells) for cells in trace(stack, *parts, reach=reach)])


def untouched(stack, *parts, reach=16):
    """Return how many of the lowest cells no instruction reads, moves or removes."""
    # What this run leaves does not matter here; it raises the fault, if there is one.
    run(stack, *parts, reach=reach)
    height = lowest = len(stack)
    for instruction in listed(parts):
        lowest = min(lowest, height - cells_needed(instruction))
        height += height_change(instruction)
    return lowest


def perform_item(cells, index, item, reach):
    """Execute one item on the list of cells, or raise `Fault` and leave the list as it is."""
    if not is_instruction(item, reach=reach) or cells_needed(item) > len(cells):
        raise Fault(index, item)
    perform(cells, item)


def _read_machine(text):
    """Return the stack and the reach that the text of a machine tells."""
    first, *rest = text_words(text)
    reach = written_number(first[:-1])
    if not first.endswith(":") or not is_reach(reach):
        raise ParseError(0, 0)
    if rest == []:
        raise ParseError(0, 1)
    return stack_of_words(rest, 0, 1), reach


class Machine:
    """A machine with a stack."""

    LEAST_REACH = 2
    MOST_REACH = 40

    def __init__(self, stack=(), *, reach=16):
        check_stack(stack)
        check_reach(reach)
        self._stack = stack
        self._reach = reach
        self._steps = 0
        # For each call of `do` that can be taken back: the stack and the steps before it.
        self._calls = []

    @property
    def stack(self):
        """The stack, a tuple."""
        return self._stack

    @property
    def height(self):
        """The number of cells."""
        return len(self._stack)

    @property
    def steps_done(self):
        """How many instructions were executed and not taken back."""
        return self._steps

    @property
    def reach(self):
        """The reach, which can be assigned."""
        return self._reach

    @reach.setter
    def reach(self, value):
        check_reach(value)
        self._reach = value

    @classmethod
    def read(cls, text):
        """Return the machine that the text tells, as `str` writes it."""
        stack, reach = _read_machine(text)
        return cls(stack, reach=reach)

    @classmethod
    def _blank(cls):
        """Return an empty machine of the same class."""
        return cls()

    def change(self, **settings):
        """Assign the properties that are passed by name, all or none."""
        for name in settings:
            if name != "reach":
                raise NoName(name)
        if "reach" in settings:
            self.reach = settings["reach"]

    def do(self, *parts):
        """Execute the instructions of the parts and return the new height."""
        stack = run(self._stack, *parts, reach=self._reach)
        self._calls.append((self._stack, self._steps))
        self._stack = stack
        self._steps += len(listed(parts))
        return len(stack)

    def undo(self, count=1):
        """Take back the last calls of `do` and return the new height."""
        if not is_integer(count) or not 1 <= count <= len(self._calls):
            raise NothingToUndo(count)
        self._stack, self._steps = self._calls[-count]
        del self._calls[-count:]
        return len(self._stack)

    def trial(self, deed):
        """Return what the function returns for this machine, and be as before then."""
        stack, reach, steps, calls = self._stack, self._reach, self._steps, list(self._calls)
        try:
            return deed(self)
        finally:
            self._stack, self._reach, self._steps, self._calls = stack, reach, steps, calls

    def twin(self):
        """Return an equal machine that can take back the same calls."""
        # Not passed to the constructor: the stack may be higher than that allows.
        other = self._blank()
        other._stack, other._reach, other._steps = self._stack, self._reach, self._steps
        other._calls = list(self._calls)
        return other

    def _alike(self, other):
        """Tell whether another machine has the same class, stack and reach."""
        if self.__class__.__name__ != other.__class__.__name__:
            return False
        return self._stack == other._stack and self._reach == other._reach

    def __len__(self):
        return len(self._stack)

    def __eq__(self, other):
        return isinstance(other, Machine) and self._alike(other)

    def __str__(self):
        return f"{self._reach}: {stack_text(self._stack)}"

    def __repr__(self):
        return f"Machine({str(self)})"


class BoundedMachine(Machine):
    """A machine whose height is bounded."""

    def __init__(self, stack=(), *, reach=16, most=40):
        super().__init__(stack, reach=reach)
        self._check_most(most)
        self._most = most

    @property
    def most(self):
        """The bound of the height, which can be assigned."""
        return self._most

    @most.setter
    def most(self, value):
        self._check_most(value)
        self._most = value

    @classmethod
    def read(cls, text):
        """Return the bounded machine that the text tells, with the bound 40."""
        stack, reach = _read_machine(text)
        return cls(stack, reach=reach)

    def _check_most(self, value):
        """Raise `TooHigh` if the value is no bound for the present height."""
        if not is_integer(value) or not len(self._stack) <= value <= MOST_HEIGHT:
            raise TooHigh(value)

    def change(self, **settings):
        """Assign the properties that are passed by name, all or none."""
        for name in settings:
            if name not in ("reach", "most"):
                raise NoName(name)
        if "reach" in settings:
            check_reach(settings["reach"])
        # The present bound is not checked: the machine may be higher than it.
        if "most" in settings:
            self._check_most(settings["most"])
        self._reach = settings.get("reach", self._reach)
        self._most = settings.get("most", self._most)

    def do(self, *parts):
        """Execute the instructions of the parts within the bound and return the new height."""
        heights = [len(cells) for cells in trace(self._stack, *parts, reach=self._reach)]
        if max(heights) > self._most:
            raise TooHigh(self._most)
        return super().do(*parts)

    def trial(self, deed):
        """Return what the function returns for this machine, and be as before then."""
        most = self._most
        try:
            return super().trial(deed)
        finally:
            self._most = most

    def twin(self):
        """Return an equal machine that can take back the same calls."""
        other = super().twin()
        other._most = self._most
        return other

    def __eq__(self, other):
        return isinstance(other, BoundedMachine) and self._alike(other) and self._most == other._most

    def __str__(self):
        return f"{self._reach}: {stack_text(self._stack)}"

    def __repr__(self):
        return f"BoundedMachine({str(self)})"
