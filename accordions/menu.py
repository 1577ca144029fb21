"""Menus that are clicked one by one, of four classes.

The document lists all methods and properties for each of the four classes, so
each of them has all in its own body. What they do is written once, in `Menu`
and in the functions above it, except where a class differs.
"""

from accordions.clicks import after_forgetful_click, after_one_click, states_on_the_way
from accordions.errors import EmptyHistoryError
from accordions.plans import check_plan, check_section, is_kind_word
from accordions.states import clickable_headers, first_state, open_to_top
from accordions.text import parse_plan
from accordions.tours import nth_tour


def changes_between(states):
    """Return for each state but the first whether it differs from the one before it."""
    return [before != after for before, after in zip(states, states[1:])]


def clicks_in(calls):
    """Return the sections that were clicked in these calls, in order."""
    return [section for _, clicks in calls for section in clicks]


def counts_in(calls):
    """Return the tuples of a section and the number of its clicks in these calls, ascending."""
    clicks = clicks_in(calls)
    return [(section, clicks.count(section)) for section in sorted(set(clicks))]


class Menu:
    """A menu whose closed sections remember what is open in them."""

    KINDS = ("one", "tab", "step")

    def __init__(self, plan):
        check_plan(plan)
        self._plan = list(plan)
        self._state = first_state(plan)
        # A tuple for each call that is not reverted: the state before it, and its clicks.
        self._calls = []

    @staticmethod
    def is_kind(value):
        """Tell whether any value is the word for a kind."""
        return is_kind_word(value)

    @classmethod
    def read(cls, text):
        """Return a menu of this class with the plan of a string."""
        return cls(parse_plan(text))

    @classmethod
    def _begun(cls, plan):
        """Return a menu of this class, whichever it is."""
        return cls(plan)

    def _states_after(self, clicks):
        """Return the states now and after each of these clicks, and click nothing."""
        return states_on_the_way(self._plan, self._state, clicks, after_one_click)

    def _make(self, clicks):
        """Make these clicks as one call, and return for each whether it changed a setting."""
        states = self._states_after(clicks)
        self._calls.append((self._state, list(clicks)))
        self._state = states[-1]
        return changes_between(states)

    def _equals(self, other):
        """Tell whether another menu agrees in all that counts for equality."""
        return (type(self) is type(other) and self._plan == other._plan and self._state == other._state
                and clicks_in(self._calls) == clicks_in(other._calls))

    def click(self, *headers):
        """Click headers, and return for each whether the click changed a setting."""
        return self._make(list(headers))

    def show(self, section):
        """Make the fewest clicks that show a section, and return them."""
        check_section(self._plan, section)
        clicks = nth_tour(self._plan, self._state, [section], 0)
        self._make(clicks)
        return clicks

    def undo(self):
        """Revert the last call that is not reverted."""
        if not self._calls:
            raise EmptyHistoryError("there is no call to revert")
        before, _ = self._calls.pop()
        self._state = before

    def tried(self, *headers):
        """Return what `click` would return, and click nothing."""
        return changes_between(self._states_after(list(headers)))

    def twin(self):
        """Return an equal menu with the same calls to revert, independent of this one."""
        other = self._begun(self._plan)
        other._state = list(self._state)
        other._calls = list(self._calls)
        return other

    def report(self):
        """Return strings that tell about the menu."""
        return [f"shown {len(self.shown)}"]

    @property
    def plan(self):
        """The plan."""
        return list(self._plan)

    @property
    def state(self):
        """The state now."""
        return list(self._state)

    @property
    def shown(self):
        """The shown sections, ascending."""
        return open_to_top(self._plan, self._state)

    @property
    def visible(self):
        """The sections whose headers are visible, ascending."""
        return clickable_headers(self._plan, self._state)

    @property
    def pressed(self):
        """The sections clicked in all calls that are not reverted, in order."""
        return clicks_in(self._calls)

    def __eq__(self, other):
        return isinstance(other, Menu) and self._equals(other)

    def __len__(self):
        return len(self._plan)


class ForgetfulMenu(Menu):
    """A menu whose sections lose what is open in them when they are closed."""

    def __init__(self, plan):
        super().__init__(plan)

    @staticmethod
    def is_kind(value):
        """Tell whether any value is the word for a kind."""
        return is_kind_word(value)

    @classmethod
    def read(cls, text):
        """Return a menu of this class with the plan of a string."""
        return cls(parse_plan(text))

    def _states_after(self, clicks):
        """Return the states now and after each of these clicks, and click nothing."""
        return states_on_the_way(self._plan, self._state, clicks, after_forgetful_click)

    def click(self, *headers):
        """Click headers, and return for each whether the click changed a setting."""
        return super().click(*headers)

    def show(self, section):
        """Make the fewest clicks that show a section in a `Menu` with this state, and return them."""
        return super().show(section)

    def undo(self):
        """Revert the last call that is not reverted."""
        super().undo()

    def tried(self, *headers):
        """Return what `click` would return, and click nothing."""
        return super().tried(*headers)

    def twin(self):
        """Return an equal menu with the same calls to revert, independent of this one."""
        return super().twin()

    def report(self):
        """Return strings that tell about the menu, at the end that it forgets."""
        return super().report() + ["forgets"]

    @property
    def plan(self):
        """The plan."""
        return list(self._plan)

    @property
    def state(self):
        """The state now."""
        return list(self._state)

    @property
    def shown(self):
        """The shown sections, ascending."""
        return open_to_top(self._plan, self._state)

    @property
    def visible(self):
        """The sections whose headers are visible, ascending."""
        return clickable_headers(self._plan, self._state)

    @property
    def pressed(self):
        """The sections clicked in all calls that are not reverted, in order."""
        return clicks_in(self._calls)

    def __eq__(self, other):
        return isinstance(other, ForgetfulMenu) and self._equals(other)

    def __len__(self):
        return len(self._plan)


class CountingMenu(Menu):
    """A menu that counts the clicks on each section."""

    def __init__(self, plan):
        super().__init__(plan)

    @staticmethod
    def is_kind(value):
        """Tell whether any value is the word for a kind."""
        return is_kind_word(value)

    @classmethod
    def read(cls, text):
        """Return a menu of this class with the plan of a string."""
        return cls(parse_plan(text))

    def click(self, *headers):
        """Click headers, and return for each whether the click changed a setting."""
        return super().click(*headers)

    def show(self, section):
        """Make the fewest clicks that show a section, and return them."""
        return super().show(section)

    def undo(self):
        """Revert the last call that is not reverted."""
        super().undo()

    def tried(self, *headers):
        """Return what `click` would return, and click nothing."""
        return super().tried(*headers)

    def twin(self):
        """Return an equal menu with the same calls to revert, independent of this one."""
        return super().twin()

    def report(self):
        """Return strings that tell about the menu, at the end the number of clicks."""
        return super().report() + [f"clicks {len(self.pressed)}"]

    @property
    def plan(self):
        """The plan."""
        return list(self._plan)

    @property
    def state(self):
        """The state now."""
        return list(self._state)

    @property
    def shown(self):
        """The shown sections, ascending."""
        return open_to_top(self._plan, self._state)

    @property
    def visible(self):
        """The sections whose headers are visible, ascending."""
        return clickable_headers(self._plan, self._state)

    @property
    def pressed(self):
        """The sections clicked in all calls that are not reverted, in order."""
        return clicks_in(self._calls)

    @property
    def counts(self):
        """The tuples of a section in `pressed` and the number of times that it is there, ascending."""
        return counts_in(self._calls)

    def __eq__(self, other):
        return isinstance(other, CountingMenu) and self._equals(other)

    def __len__(self):
        return len(self._plan)


class ForgetfulCountingMenu(ForgetfulMenu, CountingMenu):
    """A forgetful menu that counts the clicks on each section."""

    def __init__(self, plan):
        super().__init__(plan)

    @staticmethod
    def is_kind(value):
        """Tell whether any value is the word for a kind."""
        return is_kind_word(value)

    @classmethod
    def read(cls, text):
        """Return a menu of this class with the plan of a string."""
        return cls(parse_plan(text))

    def click(self, *headers):
        """Click headers, and return for each whether the click changed a setting."""
        return super().click(*headers)

    def show(self, section):
        """Make the fewest clicks that show a section in a `Menu` with this state, and return them."""
        return super().show(section)

    def undo(self):
        """Revert the last call that is not reverted."""
        super().undo()

    def tried(self, *headers):
        """Return what `click` would return, and click nothing."""
        return super().tried(*headers)

    def twin(self):
        """Return an equal menu with the same calls to revert, independent of this one."""
        return super().twin()

    def report(self):
        """Return strings that tell about the menu, at the end the number of clicks and that it forgets."""
        return super().report()

    @property
    def plan(self):
        """The plan."""
        return list(self._plan)

    @property
    def state(self):
        """The state now."""
        return list(self._state)

    @property
    def shown(self):
        """The shown sections, ascending."""
        return open_to_top(self._plan, self._state)

    @property
    def visible(self):
        """The sections whose headers are visible, ascending."""
        return clickable_headers(self._plan, self._state)

    @property
    def pressed(self):
        """The sections clicked in all calls that are not reverted, in order."""
        return clicks_in(self._calls)

    @property
    def counts(self):
        """The tuples of a section in `pressed` and the number of times that it is there, ascending."""
        return counts_in(self._calls)

    def __eq__(self, other):
        return isinstance(other, ForgetfulCountingMenu) and self._equals(other)

    def __len__(self):
        return len(self._plan)
