"""The question whether a start reaches a goal."""

from deepedge.building import build
from deepedge.errors import NoName, ParseError
from deepedge.floors import depth_of
from deepedge.formatting import stack_text
from deepedge.judge import decide
from deepedge.reaches import least_reach
from deepedge.reading import reach_line, stack_line, text_lines
from deepedge.values import check_reach, check_stack


class Problem:
    """The question whether the stack `start` reaches the target `goal`."""

    def __init__(self, start=(), goal=(), *, reach=16):
        self._set_state(start, goal, reach)

    @property
    def start(self):
        """The stack that is given, which can be assigned."""
        return self._start

    @start.setter
    def start(self, value):
        self._set_state(value, self._goal, self._reach)

    @property
    def goal(self):
        """The target, which can be assigned."""
        return self._goal

    @goal.setter
    def goal(self, value):
        self._set_state(self._start, value, self._reach)

    @property
    def reach(self):
        """The reach, which can be assigned."""
        return self._reach

    @reach.setter
    def reach(self, value):
        self._set_state(self._start, self._goal, value)

    @property
    def answer(self):
        """What `decide` returns."""
        return decide(self._start, self._goal, reach=self._reach)

    @property
    def reachable(self):
        """Whether the start reaches the goal."""
        return self.answer[0] == "reached"

    @property
    def goal_depth(self):
        """The depth of the goal."""
        return depth_of(self._goal, reach=self._reach)

    @property
    def least(self):
        """The least reach that is enough, or None."""
        found = least_reach(self._start, self._goal)
        return None if found is None else found[0]

    @classmethod
    def read(cls, text):
        """Return the problem that the text tells, as `str` writes it."""
        lines = text_lines(text)
        reach = reach_line(lines, 0)
        start = stack_line(lines, 1, "start")
        goal = stack_line(lines, 2, "goal")
        if len(lines) > 3:
            raise ParseError(3, 0)
        return cls(start, goal, reach=reach)

    def change(self, **settings):
        """Assign the properties that are passed by name, all or none."""
        for name in settings:
            if name not in ("start", "goal", "reach"):
                raise NoName(name)
        start = settings.get("start", self._start)
        goal = settings.get("goal", self._goal)
        self._set_state(start, goal, settings.get("reach", self._reach))

    def shuffle(self):
        """Return a shuffle that turns the start into the goal."""
        return build(self._start, self._goal, reach=self._reach)

    def evidence(self):
        """Return the certificate that the start does not reach the goal, or None."""
        word, found = self.answer
        return found if word == "blocked" else None

    def swapped(self):
        """Return a new problem in which the start and the goal are exchanged."""
        return Problem(self._goal, self._start, reach=self._reach)

    def _set_state(self, start, goal, reach):
        """Take this start, goal and reach, any values, if they are right."""
        check_stack(start)
        check_stack(goal)
        check_reach(reach)
        self._start = start
        self._goal = goal
        self._reach = reach

    def _state(self):
        """Return all that two equal problems have in common."""
        return (self._start, self._goal, self._reach)

    def __eq__(self, other):
        return isinstance(other, Problem) and self._state() == other._state()

    def __str__(self):
        return f"reach {self._reach}\nstart {stack_text(self._start)}\ngoal {stack_text(self._goal)}"

    def __repr__(self):
        return f"Problem(reach {self._reach})"
