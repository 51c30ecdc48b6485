"""All senders together, with their slots: how checkpoints are written and what is there when power is lost."""

from piecelines.checkpoints import Checkpoint, checkpoint_text, read_checkpoint
from piecelines.states import State, copied_state


# A checkpoint stands beside the slot that it was read from, or None if it can't be read.
class Sender:
    def __init__(self, rules, opened):
        self.rules = rules
        self.state = State(opened)
        self.slots = ["", ""]
        self.checkpoints = [None, None]


class Desk:
    def __init__(self):
        self.senders = {}


def best_checkpoint(sender):
    best = None
    for checkpoint in sender.checkpoints:
        if checkpoint is not None and (best is None or checkpoint.generation > best.generation):
            best = checkpoint
    return best


def next_generation(sender):
    best = best_checkpoint(sender)
    return 1 if best is None else best.generation + 1


# most is how many bytes are written before power goes, None if it stays.
# What is read from a whole text is the state that it was written from: that is kept, as reading takes long.
def write_checkpoint(sender, most):
    generation = next_generation(sender)
    text = checkpoint_text(generation, sender.state)
    slot = generation % 2
    if most is None or most >= len(text):
        sender.slots[slot] = text
        sender.checkpoints[slot] = Checkpoint(generation, copied_state(sender.state))
    else:
        sender.slots[slot] = text[:most]
        sender.checkpoints[slot] = read_checkpoint(text[:most])
    return generation


# The best checkpoint's state is copied, as power may be lost with it as the best one again.
def lose_power(desk):
    for sender in desk.senders.values():
        best = best_checkpoint(sender)
        sender.state = State(sender.state.opened) if best is None else copied_state(best.state)
