"""Plans and states as strings.

Each plan and each state has but one string. So a string is read without looking
for faults, and then compared with the string of what was read.
"""

from accordions.errors import InvalidFormatError
from accordions.plans import all_groups, check_plan, is_plan
from accordions.states import all_choices, check_state


def check_string(text):
    """Raise an error if this is not a string."""
    if not isinstance(text, str):
        raise InvalidFormatError("this is not a string")


def written_plan(plan):
    """Return the string of what is known to be a plan."""
    depths = [depth for depth, _ in plan]
    parts = []
    for (depth, kind), following in zip(plan, depths[1:] + [0]):
        parts.append(kind)
        parts.append("(" if following > depth else ")" * (depth - following) + " ")
    return "".join(parts).rstrip()


def written_state(plan, state):
    """Return the string of what is known to be a state."""
    return " ".join([f"{section}:{state[section]}" for section, group in enumerate(all_groups(plan)) if group])


def depths_and_words(text):
    """Return the tuples of a depth and a word between the parentheses of a string."""
    depth = 0
    rows = []
    for word in text.replace("(", " ( ").replace(")", " ) ").split():
        if word == "(":
            depth += 1
        elif word == ")":
            depth -= 1
        else:
            rows.append((depth, word))
    return rows


def setting_among(words, section, choices):
    """Return the setting that one of the words gives to a section, any one if none does."""
    found = [setting for setting in choices if f"{section}:{setting}" in words]
    return (found + choices)[0]


def format_plan(plan):
    """Return the string of a plan."""
    check_plan(plan)
    return written_plan(plan)


def parse_plan(text):
    """Return the plan of a string."""
    check_string(text)
    plan = depths_and_words(text)
    if not is_plan(plan) or written_plan(plan) != text:
        raise InvalidFormatError("this is not the string of a plan")
    return plan


def format_state(plan, state):
    """Return the string of a state."""
    check_plan(plan)
    check_state(plan, state)
    return written_state(plan, state)


def parse_state(plan, text):
    """Return the state of a string."""
    check_plan(plan)
    check_string(text)
    words = text.split()
    state = [setting_among(words, section, choices) for section, choices in enumerate(all_choices(plan))]
    if written_state(plan, state) != text:
        raise InvalidFormatError("this is not the string of a state of the plan")
    return state
