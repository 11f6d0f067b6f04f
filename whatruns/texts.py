"""Houses and runs, written in lines and read."""

from whatruns.errors import BadText
from whatruns.houses import MOST_DEVICES, MOST_TICKS, MOST_WATTS, House, check_house, next_states, readings, watts


def house_text(house):
    """A house, written in lines."""
    check_house(house)
    lines = [f"most {house.most}"]
    for profile in house:
        lines.append("draws " + _numbers_text(profile))
    return _text(lines)


def run_text(house, states):
    """A run, written in lines."""
    totals = readings(house, states)
    return _text([_state_line(total, state) for total, state in zip(totals, states)])


def _text(lines):
    return "".join([line + "\n" for line in lines])


def _numbers_text(numbers):
    return " ".join([str(number) for number in numbers])


def _state_line(total, state):
    return f"{total}: {_numbers_text(state)}"


def read_house(text):
    """The House that is written in a text."""
    lines, rest = _lines_of(text)
    found = []
    for row, line in enumerate(lines):
        if row == 0:
            numbers = _numbers_behind("most", line, 1, MOST_DEVICES)
        else:
            numbers = _numbers_behind("draws", line, MOST_TICKS, MOST_WATTS)
        if row > MOST_DEVICES or not numbers:
            raise BadText(row)
        found.append(numbers)
    if rest or len(found) < 2:
        raise BadText(len(lines))
    return House(tuple(found[1:]), found[0][0])


def read_run(house, text):
    """The list of the states of the run that is written in a text."""
    check_house(house)
    lines, rest = _lines_of(text)
    states, before = [], house.idle()
    for row, line in enumerate(lines):
        later = {_state_line(watts(house, state), state): state for state in next_states(house, before)}
        if line not in later:
            raise BadText(row)
        before = later[line]
        states.append(before)
    if rest:
        raise BadText(len(lines))
    return states


def _lines_of(text):
    """The lines of a text, and what follows the last line feed."""
    if not isinstance(text, str):
        raise BadText(0)
    parts = text.split("\n")
    return parts[:-1], parts[-1]


def _numbers_behind(name, line, many, greatest):
    """The numbers behind this name in a line, at most so many, from 1 to the greatest; none if it has another form."""
    words = line.split(" ")
    numbers = {str(number): number for number in range(1, greatest + 1)}
    if words[0] != name or len(words) > many + 1 or not all([word in numbers for word in words[1:]]):
        return ()
    return tuple([numbers[word] for word in words[1:]])
