"""Frames as texts (point 27)."""

from loadorloose.errors import BadText


def write_frame(frame):
    """The text of a frame."""
    points, members, pins = frame
    lines = [line_of(["joint", digits(x), digits(y)]) for x, y in points]
    for i, j, pull, push in members:
        lines.append(line_of(["member", digits(i), digits(j), limit_word(pull), limit_word(push)]))
    return "".join(lines + [line_of(["pin", digits(pin)]) for pin in pins])


def line_of(words):
    """The line of these words, with its newline."""
    return " ".join(words) + "\n"


def limit_word(limit):
    """How a limit is written."""
    return "-" if limit is None else digits(limit)


def digits(n):
    """How an integer is written. Python itself does not write those that are very long."""
    mark = "-" if n < 0 else ""
    rest = abs(n)
    blocks = []
    while rest >= 10 ** 64:
        blocks.append(str(rest % 10 ** 64).zfill(64))
        rest = rest // 10 ** 64
    return mark + str(rest) + "".join(blocks[::-1])


def integer(word):
    """The integer that is written so, or None if there is none."""
    size = word[1:] if word.startswith("-") else word
    if not size.isdigit() or (size.startswith("0") and word != "0"):
        return None
    found = 0
    first = len(size) % 64
    if first > 0:
        found = int(size[:first])
    for at in range(first, len(size), 64):
        found = found * 10 ** 64 + int(size[at:at + 64])
    return -found if word.startswith("-") else found


def read_frame(text):
    """The frame whose text this is; BadText if it is none."""
    lines = text.split("\n")
    frame = ((), (), ())
    for at in range(len(lines) - 1):
        frame = with_line(frame, lines[at].split(" "))
        if frame is None:
            raise BadText(at + 1)
    # What stands behind the last newline is a line without its own one.
    if lines[-1] != "":
        raise BadText(len(lines))
    return frame


def with_line(frame, words):
    """The frame with what a line of these words tells, or None if the line cannot stand behind those of the frame."""
    points, members, pins = frame
    numbers = tuple([integer(word) for word in words[1:]])
    if words[0] == "joint" and can_be_joint(frame, numbers):
        return points + (numbers,), members, pins
    if words[0] == "member" and can_be_member(frame, numbers, words[3:]):
        return points, members + (numbers,), pins
    if words[0] == "pin" and can_be_pin(frame, numbers):
        return points, members, pins + numbers
    return None


def can_be_joint(frame, numbers):
    """Whether these are the coordinates of a joint that can stand behind what the frame has."""
    _, members, pins = frame
    return len(numbers) == 2 and None not in numbers and not members and not pins


def can_be_member(frame, numbers, limit_words):
    """Whether these are the numbers of a member that can stand behind what the frame has, with None for no limit."""
    points, members, pins = frame
    if len(numbers) != 4 or pins:
        return False
    i, j = numbers[:2]
    if i is None or j is None or not 0 <= i < j < len(points) or points[i] == points[j]:
        return False
    if any([(i, j) == member[:2] for member in members]):
        return False
    return all([is_limit(word, limit) for word, limit in zip(limit_words, numbers[2:])])


def is_limit(word, limit):
    """Whether a limit can be written with this word, which stands for this integer or for none."""
    return word == "-" if limit is None else limit >= 0


def can_be_pin(frame, numbers):
    """Whether this is the number of a pin that can stand behind what the frame has."""
    points, _, pins = frame
    if len(numbers) != 1 or numbers[0] is None or not 0 <= numbers[0] < len(points):
        return False
    return not pins or numbers[0] > pins[-1]
