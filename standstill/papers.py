"""Papers: lines that can be followed one by one, down to the empty bar."""

from standstill.knowing import right_step


def right_line(plain, worlds, bars, line):
    """Whether the line's steps lead from its bar to an end, each step being right."""
    bar = line[0]
    things = [thing for thing, truth in bar]
    if len(set(things)) < len(things):
        return False
    return right_steps(plain, worlds, bars, begun(plain[0], bar), line[1])


def begun(many, bar):
    """The sheet that has the bar's pairs and nothing else."""
    sheet = [None for thing in range(many)]
    for thing, truth in bar:
        sheet[thing] = truth
    return sheet


def right_steps(plain, worlds, bars, sheet, steps):
    """Whether there are steps, each right behind those ahead of it, and the last alone ends them."""
    after = list(sheet)
    for place, step in enumerate(steps, start=1):
        ends = step[0] is None
        if ends != (place == len(steps)):
            return False
        if not right_step(plain, worlds, bars, after, step):
            return False
        if not ends:
            after[step[0][0]] = step[0][1]
    return len(steps) > 0


def right_paper(plain, worlds, paper):
    """Whether each line is right by the bars of the lines ahead, and the last bar is empty."""
    bars = []
    for line in paper:
        if not right_line(plain, worlds, bars, line):
            return False
        bars.append(line[0])
    return len(bars) > 0 and len(bars[-1]) == 0
