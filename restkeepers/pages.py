"""What a desk keeps and notes at one time: things under names, claims under labels, and how deeds change these."""

from restkeepers.claims import is_claim, is_true
from restkeepers.commands import CLAIMS
from restkeepers.errors import InvalidClaim, LabelTaken, NameTaken, UnknownLabel, UnknownName
from restkeepers.things import changed_room, changed_rows, fresh, kind_of_thing, made


class Page:
    """Things by their names, claims by their labels: each as its words, with its state. A page never changes."""

    def __init__(self, things, claims):
        self.things = things
        self.claims = claims
        self.states = {label: state_of(things, claims[label]) for label in claims}


def claim_on(things, words):
    """The claim as a tuple, of what is kept under its names; None if there is none."""
    word, *names = words
    parts = []
    for kind, name in zip(CLAIMS[word], names):
        if name not in things or kind_of_thing(things[name]) != kind:
            return None
        parts.append(fresh(things[name]))
    claim = (word, *parts)
    return claim if is_claim(claim) else None


def state_of(things, words):
    """The state of a claim: true, false or gone."""
    claim = claim_on(things, words)
    if claim is None:
        return "gone"
    return "true" if is_true(claim) else "false"


def need_label(page, label):
    """Raise UnknownLabel unless a claim is noted under the label."""
    if not isinstance(label, str) or label not in page.claims:
        raise UnknownLabel(label)


def need_new(page, told):
    """Raise NameTaken or LabelTaken for what is to be new behind a command, and is not."""
    for slot, name in told:
        if slot == "new" and name in page.things:
            raise NameTaken(name)
        if slot == "new label" and name in page.claims:
            raise LabelTaken(name)


def with_things(page, told):
    """What is told behind a command, things in the places of their names."""
    found = []
    for slot, value in told:
        match slot:
            case "room" | "table" | "rows":
                found.append(kept_thing(page, value, slot))
            case "thing":
                found.append(kept_thing(page, value, None))
            case "like":
                found.append(kept_thing(page, value, kind_of_thing(found[-1])))
            case "label":
                need_label(page, value)
                found.append(value)
            case _:
                found.append(value)
    return found


def kept_thing(page, name, kind):
    """The thing of this kind, or of any for None, that is kept under the name."""
    if name not in page.things or kind not in (None, kind_of_thing(page.things[name])):
        raise UnknownName(name)
    return fresh(page.things[name])


def page_behind(page, word, told, found):
    """The page behind the deed with this word; names are told, things are found."""
    name = told[0][1]
    match word:
        case "claim":
            return noted(page, told, found)
        case "forget":
            return Page(page.things, without(page.claims, name))
        case "drop":
            return Page(without(page.things, name), page.claims)
        case "entry":
            return Page({**page.things, name: changed_room(*found)}, page.claims)
        case "row":
            return Page({**page.things, name: changed_rows(*found)}, page.claims)
        case _:
            return Page({**page.things, name: made(word, found[1:])}, page.claims)


def noted(page, told, found):
    """The page with the claim under its label."""
    label, *claim = found
    if not is_claim(tuple(claim)):
        raise InvalidClaim(tuple(claim))
    words = tuple([word for _, word in told[1:]])
    return Page(page.things, {**page.claims, label: words})


def without(table, key):
    """The dict without what stands under the key."""
    return {name: table[name] for name in table if name != key}


def labelled(states, labels):
    """The labels with their states, as answers tell them."""
    return ", ".join([f"{label} {states[label]}" for label in labels]) if labels else "-"


def changes(page, behind):
    """The answer to a deed: the labels whose states are others than ahead of it."""
    found = [label for label in sorted(behind.states) if behind.states[label] != page.states.get(label)]
    return labelled(behind.states, found)


def answer_on(page, word, told):
    """What a command tells of the names and labels themselves; None if it asks for something else."""
    match word:
        case "state":
            return page.states[told[0]]
        case "states":
            return labelled(page.states, sorted(page.states))
        case "claimed":
            return " ".join(page.claims[told[0]])
        case "names":
            return " ".join(sorted(page.things)) if page.things else "-"
        case _:
            return None
