"""Joins: the stacks with which a block is entered, and what the block wants of them."""

from deepedge.building import build
from deepedge.errors import InvalidStack, InvalidWanted, NoMember, NoName, NothingToUndo, ParseError, TooMany
from deepedge.formatting import stack_text
from deepedge.layouts import check_stacks, check_wanted, layout_for
from deepedge.reading import number_line, reach_line, stack_line, text_lines, words_behind
from deepedge.values import check_reach, is_integer, is_stack, is_value


class Join:
    """The stacks of the predecessors of a block, and what the block wants."""

    MOST_STACKS = 6
    MOST_WANTED = 12

    def __init__(self, *stacks, wanted=(), reach=16):
        check_stacks(stacks)
        self._check_wanted(wanted)
        check_reach(reach)
        # How often the layout ends with one more copy of its last value; more than 0 in a loop only.
        self._uses = 0
        # For each call that can be taken back: the state before it.
        self._past = []
        self._set_state(stacks, wanted, reach)

    @property
    def stacks(self):
        """The tuple of the stacks."""
        return self._stacks

    @property
    def layout(self):
        """A layout, or None."""
        word, found = self._answer
        if word == "barred":
            return None
        return found + found[-1:] * self._uses

    @property
    def rows(self):
        """A barred certificate, or None."""
        word, found = self._answer
        return found if word == "barred" else None

    @property
    def wanted(self):
        """The ascending tuple of the wanted values, which can be assigned."""
        return self._wanted

    @wanted.setter
    def wanted(self, value):
        self._check_wanted(value)
        self._go_on(self._stacks, value, self._reach)

    @property
    def reach(self):
        """The reach, which can be assigned."""
        return self._reach

    @reach.setter
    def reach(self, value):
        check_reach(value)
        self._go_on(self._stacks, self._wanted, value)

    @classmethod
    def read(cls, text):
        """Return the join that the text tells, as `str` writes it."""
        lines = text_lines(text)
        reach = reach_line(lines, 0)
        wanted = _wanted_line(lines, 1, cls.MOST_WANTED)
        stacks = _stack_lines(lines, 2, cls.MOST_STACKS)
        return cls(*stacks, wanted=wanted, reach=reach)

    def change(self, **settings):
        """Assign the properties that are passed by name, all or none."""
        for name in settings:
            if name not in ("wanted", "reach"):
                raise NoName(name)
        wanted = settings.get("wanted", self._wanted)
        reach = settings.get("reach", self._reach)
        self._check_wanted(wanted)
        check_reach(reach)
        self._go_on(self._stacks, wanted, reach)

    def add(self, stack):
        """Add a stack at the end and return its index."""
        index = len(self._stacks)
        if not is_stack(stack):
            raise InvalidStack(index)
        if index == self.MOST_STACKS:
            raise TooMany(self.MOST_STACKS)
        self._go_on(self._stacks + (stack,), self._wanted, self._reach)
        return index

    def remove(self, index):
        """Remove the stack with this index and return it."""
        count = len(self._stacks)
        if not is_integer(index) or not 0 <= index < count or count == 1:
            raise NoMember(index)
        removed = self._stacks[index]
        self._go_on(self._stacks[:index] + self._stacks[index + 1:], self._wanted, self._reach)
        return removed

    def shuffles(self):
        """Yield, for each stack in order, a shuffle that turns it into the layout."""
        layout, reach = self.layout, self._reach
        if layout is not None:
            for stack in self._stacks:
                yield build(stack, layout, reach=reach)

    def undo(self):
        """Take back the last change."""
        if self._past == []:
            raise NothingToUndo(1)
        stacks, wanted, reach = self._past.pop()
        self._set_state(stacks, wanted, reach)

    def _check_wanted(self, wanted):
        """Raise `InvalidWanted` if the thing, any value, cannot be what the block wants."""
        check_wanted(wanted)

    def _go_on(self, stacks, wanted, reach):
        """Take a new state and remember the present one."""
        self._past.append((self._stacks, self._wanted, self._reach))
        self._set_state(stacks, wanted, reach)

    def _set_state(self, stacks, wanted, reach):
        """Take the state, and find what belongs to it."""
        self._stacks = stacks
        self._wanted = tuple(sorted(set(wanted)))
        self._reach = reach
        self._answer = layout_for(*stacks, wanted=wanted, reach=reach)

    def _same_state(self, other):
        """Tell whether another join has the same state."""
        if self._uses != other._uses or self._stacks != other._stacks:
            return False
        return self._wanted == other._wanted and self._reach == other._reach

    def _lines_below(self):
        """Return the list of the lines for the wanted values and the stacks."""
        told = [f"stack {stack_text(stack)}" for stack in self._stacks]
        return [f"wanted {stack_text(self._wanted)}"] + told

    def __len__(self):
        return len(self._stacks)

    def __eq__(self, other):
        return isinstance(other, Join) and self._same_state(other)

    def __str__(self):
        return "\n".join([f"reach {self._reach}"] + self._lines_below())

    def __repr__(self):
        return f"Join({len(self._stacks)} stacks)"


class Loop(Join):
    """A join at the head of a loop whose body removes the topmost values."""

    MOST_USES = 8

    def __init__(self, *stacks, wanted=(), reach=16, uses=1):
        super().__init__(*stacks, wanted=wanted, reach=reach)
        self._uses = uses

    @property
    def uses(self):
        """How many of the topmost values the body removes."""
        return self._uses

    @classmethod
    def read(cls, text):
        """Return the loop that the text tells, as `str` writes it."""
        lines = text_lines(text)
        reach = reach_line(lines, 0)
        uses = number_line(lines, 1, "uses", 1, cls.MOST_USES)
        # A loop needs a wanted value, so the sign for nothing is a wrong word.
        wanted = _values_behind(words_behind(lines, 2, "wanted"), 2, cls.MOST_WANTED)
        stacks = _stack_lines(lines, 3, cls.MOST_STACKS)
        return cls(*stacks, wanted=wanted, reach=reach, uses=uses)

    def back_shuffle(self):
        """Return a shuffle that turns the layout without its topmost values into the layout again, or None."""
        if self.layout is None:
            return None
        return (("dup", 1),) * self._uses

    def _check_wanted(self, wanted):
        """Raise `InvalidWanted` if the thing, any value, cannot be what the block wants."""
        check_wanted(wanted)
        if wanted == ():
            raise InvalidWanted(())

    def __eq__(self, other):
        return isinstance(other, Loop) and self._same_state(other)

    def __str__(self):
        return "\n".join([f"reach {self._reach}", f"uses {self._uses}"] + self._lines_below())

    def __repr__(self):
        return f"Loop({len(self._stacks)} stacks)"


def _wanted_line(lines, line, most):
    """Return the wanted values that the line with this index tells, perhaps none."""
    words = words_behind(lines, line, "wanted")
    return () if words == ["-"] else _values_behind(words, line, most)


def _values_behind(words, line, most):
    """Return the ascending values that the words behind the first one of the line tell."""
    for index, word in enumerate(words):
        ascends = index == 0 or words[index - 1] < word
        if index == most or not is_value(word) or not ascends:
            raise ParseError(line, index + 1)
    return tuple(words)


def _stack_lines(lines, first, most):
    """Return the tuple of the stacks that the lines from this index on tell: at least one."""
    stacks = [stack_line(lines, first, "stack")]
    for line in range(first + 1, len(lines)):
        if len(stacks) == most:
            raise ParseError(line, 0)
        stacks.append(stack_line(lines, line, "stack"))
    return tuple(stacks)
