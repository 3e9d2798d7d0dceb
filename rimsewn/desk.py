"""The desk: keeps sheets, bodies and facts, and answers line by line."""

from rimsewn.desk_asks import answer_of
from rimsewn.desk_deeds import changed
from rimsewn.desk_lines import ASKS
from rimsewn.errors import BadDesk, BadLine, Nothing, SewError
from rimsewn.tables import Table


def is_ask(line):
    """Whether any value is a line with the first word of an ask line."""
    return isinstance(line, str) and line.split(" ")[0] in ASKS


class State:
    """The table of a desk, its deeds, each a pair of the table ahead of it and its line, and those taken back."""

    def __init__(self, table, deeds, undone):
        self.table = table
        self.deeds = deeds
        self.undone = undone


def behind_line(state, line):
    """The State behind a line, and the answer."""
    if is_ask(line):
        return state, answer_of(state.table, line)
    table, answer = changed(state.table, line)
    return State(table, state.deeds + ((state.table, line),), ()), answer


def behind_lines(state, lines):
    """The State behind these lines, and the answers."""
    answers = []
    for at, line in enumerate(lines):
        try:
            state, answer = behind_line(state, line)
        except SewError as error:
            raise BadLine(at, error) from None
        answers.append(answer)
    return state, tuple(answers)


class Desk:
    """A desk that keeps nothing as yet."""

    def __init__(self):
        self.state = State(Table(), (), ())
        self.table = self.state.table
        self.story = ()

    def set_state(self, state):
        """Goes over to a state."""
        self.state = state
        self.table = state.table
        self.story = tuple([line for _, line in state.deeds])

    def __call__(self, line):
        state, answer = behind_line(self.state, line)
        self.set_state(state)
        return answer

    def told(self, *lines):
        """Does all the lines, or none if one raises an error; returns the answers."""
        state, answers = behind_lines(self.state, lines)
        self.set_state(state)
        return answers

    def tried(self, *lines):
        """The answers to all the lines; the desk stays as before."""
        return behind_lines(self.state, lines)[1]

    def undo(self):
        """Takes back the last line of the story, and returns it."""
        deeds = self.state.deeds
        if len(deeds) == 0:
            raise Nothing()
        before, line = deeds[-1]
        self.set_state(State(before, deeds[:-1], self.state.undone + ((self.state.table, line),)))
        return line

    def redo(self):
        """Does again the line that was taken back last, and returns it."""
        undone = self.state.undone
        if len(undone) == 0:
            raise Nothing()
        behind, line = undone[-1]
        self.set_state(State(behind, self.state.deeds + ((self.state.table, line),), undone[:-1]))
        return line

    def twin(self):
        """A Desk that is in all as this one."""
        other = Desk()
        other.set_state(self.state)
        return other

    def __len__(self):
        return len(self.table.facts)

    def __contains__(self, value):
        return isinstance(value, str) and value in self.table.names

    def __eq__(self, other):
        return isinstance(other, Desk) and self.table == other.table


def need_desk(desk, part):
    """Refuses what is no desk, with the name of the parameter."""
    if not isinstance(desk, Desk):
        raise BadDesk(part)
