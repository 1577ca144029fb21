"""Plans: the sections of a menu from top to bottom, and how they are nested."""

from accordions.errors import InvalidPlanError, InvalidSectionError, InvalidSectionsError
from accordions.integers import is_whole_number

KINDS = ("one", "tab", "step")
MOST_SECTIONS = 40


def is_plan(value):
    """Tell whether any value is a plan."""
    if type(value) != list or not 1 <= len(value) <= MOST_SECTIONS:
        return False
    if not all([is_depth_and_kind(row) for row in value]):
        return False
    return depths_fit([row[0] for row in value])


def is_kind_word(value):
    """Tell whether any value is the word for a kind."""
    return isinstance(value, str) and value in KINDS


def is_depth_and_kind(value):
    """Tell whether any value is a tuple of an integer and a kind."""
    if type(value) != tuple or len(value) != 2:
        return False
    depth, kind = value
    return is_whole_number(depth) and is_kind_word(kind)


def depths_fit(depths):
    """Tell whether only the first depth is 0 and none skips a level."""
    if depths[0] != 0:
        return False
    return all([1 <= depth <= before + 1 for before, depth in zip(depths, depths[1:])])


def check_plan(plan):
    """Raise an error if this is not a plan."""
    if not is_plan(plan):
        raise InvalidPlanError("this is not a plan")


def is_section(plan, value):
    """Tell whether any value is a section of the plan."""
    return is_whole_number(value) and 0 <= value < len(plan)


def check_section(plan, section):
    """Raise an error if this is not a section of the plan."""
    if not is_section(plan, section):
        raise InvalidSectionError("this is not a section of the plan")


def check_below_page(plan, section):
    """Raise an error if this is not a section of the plan, or is the page."""
    check_section(plan, section)
    if section == 0:
        raise InvalidSectionError("the page cannot stand here")


def check_sections(plan, sections):
    """Raise an error if this is not an ascending list of different sections of the plan."""
    if type(sections) != list or not all([is_section(plan, section) for section in sections]):
        raise InvalidSectionsError("this is not a list of sections of the plan")
    if not all([before < section for before, section in zip(sections, sections[1:])]):
        raise InvalidSectionsError("these sections are not ascending")


def all_parents(plan):
    """Return the parent of each section, None for the page."""
    last_at = {}
    parents = []
    for section, (depth, _) in enumerate(plan):
        last_at[depth] = section
        parents.append(last_at.get(depth - 1))
    return parents


def all_groups(plan):
    """Return the group of each section."""
    groups = [[] for row in plan]
    for section, parent in enumerate(all_parents(plan)):
        if parent is not None:
            groups[parent].append(section)
    return groups


def end_of(plan, section):
    """Return the first number behind a section and the sections within it."""
    end = section + 1
    while end < len(plan) and plan[end][0] > plan[section][0]:
        end += 1
    return end


def parent_of(plan, section):
    """Return the parent of a section, None for the page."""
    check_plan(plan)
    check_section(plan, section)
    return all_parents(plan)[section]


def group_of(plan, section):
    """Return the sections whose parent this section is."""
    check_plan(plan)
    check_section(plan, section)
    return all_groups(plan)[section]


def around(plan, section):
    """Return the sections around a section, ascending."""
    check_plan(plan)
    check_section(plan, section)
    parents = all_parents(plan)
    found = []
    parent = parents[section]
    while parent is not None:
        found.append(parent)
        parent = parents[parent]
    return found[::-1]


def sections_within(plan, section):
    """Return the sections that have this section around them, ascending."""
    check_plan(plan)
    check_section(plan, section)
    return list(range(section + 1, end_of(plan, section)))


def plan_without(plan, section):
    """Return the plan without a section and the sections within it."""
    check_plan(plan)
    check_below_page(plan, section)
    return plan[:section] + plan[end_of(plan, section):]
