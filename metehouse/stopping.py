"""Stopping: when the house has decided a run."""

from metehouse.claims import AtMost
from metehouse.errors import NoWorld, NotRun, TooMany
from metehouse.house import MOST_READINGS
from metehouse.judging import judge
from metehouse.runs import Run

# The word of a run for the word of the judgement that it reaches the level.
ENDS = {"sure": "reached", "never": "missed"}


def run_named(house, name):
    """The run of this name; raise an error if there is none."""
    run = house.instrument(name)
    if not isinstance(run, Run):
        raise NotRun(name)
    return run


def need_space(house, name):
    """Raise TooMany if the instrument has as many readings as it can have."""
    if len(house.readings(name)) >= MOST_READINGS:
        raise TooMany("readings", MOST_READINGS)


def judged(house, run, tries):
    """The judgement whether the run reaches the level, once the tries were recorded; no tries are no reading."""
    after = house if tries == "" else house.hearing(run.name, tries)
    return judge(after, AtMost(run.form, run.height))


def decided(verdict):
    """The word of a run that the house has decided, or None."""
    return ENDS.get(verdict[0])


def stop(house, name, tries=""):
    """The word of the run if the house has decided it after these tries, or None."""
    run = run_named(house, name)
    run.says(tries)
    if tries != "":
        need_space(house, name)
    verdict = judged(house, run, tries)
    if verdict[0] == "none":
        raise NoWorld(verdict[1])
    return decided(verdict)


def endings(house, name):
    """The strings of tries that can be an end, ascending, each with its word and with who ends it."""
    run = run_named(house, name)
    need_space(house, name)
    verdicts = {}
    todo = [""]
    while len(todo) > 0:
        tries = todo.pop()
        # What tries tell depends on their counts alone.
        counts = (tries.count("r"), tries.count("m"))
        if counts not in verdicts:
            verdicts[counts] = judged(house, run, tries)
        word = decided(verdicts[counts])
        end = run.table.word_after(tries)
        if word is not None:
            yield (tries, word, "house")
        elif end is not None and verdicts[counts][0] != "none":
            yield (tries, end, "table")
        elif verdicts[counts][0] != "none":
            todo.extend([tries + "r", tries + "m"])
