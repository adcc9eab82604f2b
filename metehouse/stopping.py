"""Stopping: when the house has decided a run."""

from metehouse.claims import AtMost
from metehouse.errors import NoWorld, NotRun, TooMany
from metehouse.house import MOST_READINGS
from metehouse.judging import judge, word
from metehouse.runs import Run

# The word of a run for the word of the judgement that it reaches the level.
ENDS = {"sure": "reached", "never": "missed"}


def run_named(house, name):
    """The run of this name; raise an error if there is none."""
    run = house.instrument(name)
    if not isinstance(run, Run):
        raise NotRun(name)
    return run


def need_space(house, name):
    """Raise TooMany if the instrument has as many readings as it can have."""
    if len(house.readings(name)) >= MOST_READINGS:
        raise TooMany("readings", MOST_READINGS)


def after_tries(house, run, tries):
    """The house in which the tries were recorded; no tries are no reading."""
    return house if tries == "" else house.hearing(run.name, tries)


def reaches(run):
    """The claim that the run reaches the level."""
    return AtMost(run.form, run.height)


def stop(house, name, tries=""):
    """The word of the run if the house has decided it after these tries, or None."""
    run = run_named(house, name)
    run.says(tries)
    if tries != "":
        need_space(house, name)
    verdict = judge(after_tries(house, run, tries), reaches(run))
    if verdict[0] == "none":
        raise NoWorld(verdict[1])
    return ENDS.get(verdict[0])


def endings(house, name):
    """The strings of tries that can be an end, ascending, each with its word and with who ends it."""
    run = run_named(house, name)
    need_space(house, name)
    known = {}
    todo = [""]
    while len(todo) > 0:
        tries = todo.pop()
        # What tries tell depends on their counts alone.
        counts = (tries.count("r"), tries.count("m"))
        if counts not in known:
            known[counts] = word(after_tries(house, run, tries), reaches(run))
        end = run.table.word_after(tries)
        if known[counts] in ENDS:
            yield (tries, ENDS[known[counts]], "house")
        elif known[counts] == "open":
            if end is not None:
                yield (tries, end, "table")
            else:
                todo.extend([tries + "r", tries + "m"])
