"""Rules: what stands against a route, made of it once and asked of whatever ground."""

from yardkeep.paths import holder
from yardkeep.routes import lies_of

# Each rule is made by a function of its own: one made in a loop would read the loop's last part.


def rule_held(part):
    return lambda ground: ("held", part) if holder(ground.path_of, part) != "" else None


def rule_taken(part):
    return lambda ground: ("taken", part) if ground.told.get(part, False) else None


def rule_stiff(part):
    return lambda ground: ("stiff", part) if ground.stiff_ones.get(part, False) else None


def rule_lies(part, lie):
    stiff = rule_stiff(part)
    return lambda ground: None if ground.lie_of.get(part, "") == lie else stiff(ground)


def rules_of(route):
    rules = []
    for step in route[1:]:
        rules.append(rule_held(step[0]))
        rules.append(rule_taken(step[0]))
        if step[3] != "":
            rules.append(rule_lies(step[0], step[3]))
    return rules


def against(rules, ground):
    for rule in rules:
        told = rule(ground)
        if told is not None:
            return told
    return None


def against_points(points, ground):
    return against([rule_held(points), rule_taken(points), rule_stiff(points)], ground)


def laid(lies, route):
    told = dict(lies)
    told.update(lies_of(route))
    return told
