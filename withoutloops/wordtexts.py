"""The texts of the keepers of words: what they keep for each machine of up to three states."""


def sum_of(terms):
    """The question that holds if at least one of the terms does."""
    return "or " * (len(terms) - 1) + " ".join(terms)


def table_lines(machine):
    """The lines of told and kept tables."""
    told = [f"told {sign} 1" for sign in machine.signs]
    between = [f"kept m{one}{other} 2" for one in machine.states for other in machine.states]
    ahead = [f"kept f{state} 1" for state in machine.states]
    behind = [f"kept t{state} 1" for state in machine.states]
    return told + between + ahead + behind + ["kept acc 0"]


def first_lines(machine):
    """The lines of what stands at first: no letters lead from each state to itself."""
    lines = [f"first m{state}{state} x y is less x y" for state in machine.states]
    lines.append(f"first f{machine.start} x is yes")
    lines.extend([f"first t{state} x is yes" for state in machine.ends])
    if machine.start in machine.ends:
        lines.append("first acc is yes")
    return lines


def set_lines(machine, leads):
    """The lines of what becomes of kept tables, if the changed place now leads from each state as leads tells."""
    moves = list(zip(machine.states, leads))
    lines = []
    for one in machine.states:
        for other in machine.states:
            over = sum_of([f"and m{one}{state} x p m{lead}{other} p y" for state, lead in moves])
            lines.append(
                f"set m{one}{other} x y is or and m{one}{other} x y not and less x p less p y "
                f"and and less x p less p y {over}"
            )
    for other in machine.states:
        over = sum_of([f"and f{state} p m{lead}{other} p x" for state, lead in moves])
        lines.append(f"set f{other} x is or and f{other} x not less p x and less p x {over}")
    for one in machine.states:
        over = sum_of([f"and m{one}{state} x p t{lead} p" for state, lead in moves])
        lines.append(f"set t{one} x is or and t{one} x not less x p and less x p {over}")
    over = sum_of([f"and f{state} p t{lead} p" for state, lead in moves])
    return lines + [f"set acc is {over}"]


def put_lines(machine, at):
    """The lines of the section of puts of the sign with this number."""
    sign = machine.signs[at]
    lines = [f"put {sign}"]
    others = [f"{other} p" for other in machine.signs if other != sign]
    if len(others) > 0:
        lines.append(f"bar {sum_of(others)}")
    return lines + set_lines(machine, [leads[at] for leads in machine.steps])


def word_text(machine):
    """The text of the keeper of the words that a Machine takes."""
    lines = table_lines(machine) + first_lines(machine)
    for at in range(len(machine.signs)):
        lines.extend(put_lines(machine, at))
    for sign in machine.signs:
        lines.append(f"strike {sign}")
        lines.extend(set_lines(machine, machine.states))
    return "\n".join(lines + ["answer is acc"])
