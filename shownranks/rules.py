"""Rules: the steps by which an asking becomes a cheaper one with the same answers and ranks."""

from shownranks.askings import MOST_TIMES, All, Also, Any, But, By, In, Never
from shownranks.paths import many_nodes
from shownranks.reading import show_asking


def many_leaves(asking):
    """How many leaves and Nevers an asking has."""
    some = asking.inner_ones()
    return 1 if len(some) == 0 else sum([many_leaves(inner) for inner in some])


def cost_of(asking):
    """The cost: how many leaves and Nevers, and how many nodes."""
    return (many_leaves(asking), many_nodes(asking))


def are_equal(one, other):
    """Whether two askings are told alike."""
    return one.told() == other.told()


def is_all_or_any(asking):
    """Whether an asking is an All or an Any."""
    return isinstance(asking, (All, Any))


def are_of_one_sort(asking, inner):
    """Whether both are Alls, or both Anys."""
    if isinstance(asking, All):
        return isinstance(inner, All)
    return isinstance(asking, Any) and isinstance(inner, Any)


def of_others(asking, some):
    """An All of other askings where this is one, else an Any of them."""
    return All(some) if isinstance(asking, All) else Any(some)


def without(some, at):
    """The askings but for that at a place."""
    return some[:at] + some[at + 1:]


def puts_by_one(asking):
    """That one, for an All or Any of one."""
    some = asking.inner_ones()
    return some if is_all_or_any(asking) and len(some) == 1 else []


def puts_by_flat(asking):
    """For each All among an All's parts, or Any among an Any's: the latter's parts in its place."""
    puts = []
    some = asking.inner_ones()
    for at, inner in enumerate(some):
        if are_of_one_sort(asking, inner):
            puts.append(of_others(asking, some[:at] + inner.inner_ones() + some[at + 1:]))
    return puts


def rest_of(asking):
    """What is within a By, else the asking itself."""
    return asking.inner if isinstance(asking, By) else asking


def times_of(asking):
    """The number of a By, else 1."""
    return asking.times if isinstance(asking, By) else 1


def joined_like(one, other):
    """A list of the By that two with equal rests become together; without one where they do not."""
    times = times_of(one) + times_of(other)
    if times > MOST_TIMES or not are_equal(rest_of(one), rest_of(other)):
        return []
    return [By(times, rest_of(one))]


def puts_by_like(asking):
    """For each two with equal rests: the first with both numbers, without the second."""
    some = asking.inner_ones()
    if isinstance(asking, Also):
        return joined_like(some[0], some[1])
    if not is_all_or_any(asking):
        return []
    puts = []
    for second, other in enumerate(some):
        for first, one in enumerate(some[:second]):
            for joined in joined_like(one, other):
                kept = some[:first] + [joined] + some[first + 1:]
                puts.append(of_others(asking, without(kept, second)))
    return puts


def puts_by_by(asking):
    """What is within a By of 1; the By of the product for a By of a By."""
    if not isinstance(asking, By):
        return []
    inner = asking.inner
    puts = [inner] if asking.times == 1 else []
    if isinstance(inner, By) and asking.times * inner.times <= MOST_TIMES:
        puts.append(By(asking.times * inner.times, inner.inner))
    return puts


def puts_by_pull(asking):
    """One By around an All or Any, for one of Bys of one number."""
    some = asking.inner_ones()
    if not is_all_or_any(asking) or len(some) < 2 or not all([isinstance(one, By) for one in some]):
        return []
    times = some[0].times
    if not all([one.times == times for one in some]):
        return []
    return [By(times, of_others(asking, [one.inner for one in some]))]


def puts_by_part(asking):
    """One In around an All or Any, for one of Ins of one part."""
    some = asking.inner_ones()
    if not is_all_or_any(asking) or len(some) < 2 or not all([isinstance(one, In) for one in some]):
        return []
    part = some[0].part
    if not all([one.part == part for one in some]):
        return []
    return [In(part, of_others(asking, [one.inner for one in some]))]


def puts_by_in(asking):
    """For an In of an In: the inner one where both are of the same part, else a Never."""
    if not isinstance(asking, In) or not isinstance(asking.inner, In):
        return []
    return [asking.inner if asking.inner.part == asking.part else Never()]


def puts_by_never(asking):
    """What becomes of an asking with a Never among its parts."""
    some = asking.inner_ones()
    at_nevers = [at for at, inner in enumerate(some) if isinstance(inner, Never)]
    if isinstance(asking, Any):
        return [Any(without(some, at)) for at in at_nevers if len(some) > 1]
    puts = []
    for at in at_nevers:
        is_second = isinstance(asking, (But, Also)) and at == 1
        puts.append(some[0] if is_second else Never())
    return puts


def puts_by_away(asking):
    """A Never, for a But of two equal ones."""
    if not isinstance(asking, But) or not are_equal(asking.one, asking.other):
        return []
    return [Never()]


def puts_without_needless(asking):
    """For an All without each Any that has another of its parts; for an Any likewise without Alls."""
    some = asking.inner_ones()
    told = [one.told() for one in some]
    puts = []
    for at, inner in enumerate(some):
        is_other_sort = is_all_or_any(inner) and not are_of_one_sort(asking, inner)
        if is_other_sort and any([further.told() in told for further in inner.inner_ones()]):
            puts.append(of_others(asking, without(some, at)))
    return puts


def puts_by_behind(asking):
    """What becomes of a node of which only counts whether a text answers it."""
    if isinstance(asking, By):
        return [asking.inner]
    if isinstance(asking, Also):
        return [asking.one]
    return puts_without_needless(asking) if is_all_or_any(asking) else []


PUTS_BY_RULE = {
    "one": puts_by_one,
    "flat": puts_by_flat,
    "like": puts_by_like,
    "by": puts_by_by,
    "pull": puts_by_pull,
    "part": puts_by_part,
    "in": puts_by_in,
    "never": puts_by_never,
    "away": puts_by_away,
    "behind": puts_by_behind,
}


def steps_by_rule(rule, asking, path):
    """The steps of one rule at one node, each once."""
    puts_of = PUTS_BY_RULE[rule]
    # Written, because what is told may be too deep to be a key.
    puts = {show_asking(put): put for put in puts_of(asking)}
    return [(rule, path, puts[written]) for written in puts]


def steps_within(asking, path, is_behind):
    """The steps of the node at a path and of all within it."""
    steps = []
    for rule in PUTS_BY_RULE:
        if rule != "behind" or is_behind:
            steps.extend(steps_by_rule(rule, asking, path))
    for at, inner in enumerate(asking.inner_ones()):
        is_second = isinstance(asking, But) and at == 1
        steps.extend(steps_within(inner, path + (at,), is_behind or is_second))
    return steps


def steps_of(asking):
    """All steps of an asking: a list of tuples (rule, path, put), each once."""
    return steps_within(asking, (), False)
