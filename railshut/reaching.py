"""What can be come to from somewhere, step by step."""


def reached_from(ahead, start):
    """All that can be come to from the start, itself among them, each one a key; ahead tells what is next to each."""
    reached = {start: True}
    waiting = [start]
    while waiting:
        here = waiting.pop()
        for other in ahead[here]:
            if other not in reached:
                reached[other] = True
                waiting.append(other)
    return reached
