"""Writing queries."""

from mendedtree.signs.escapes import write_literal


def write_query(query):
    """The written form of a query."""
    return "\n".join([" ".join([_write_form(form)] + [_write_test(test) for test in tests]) for form, tests in query])


def _write_test(test):
    word, capture, other = test
    if word in ("is", "not"):
        return f"#{word} @{capture} " + write_literal(other)
    return f"#{word} @{capture} @{other}"


def _write_form(form):
    written = []
    # Written parts, and forms that are not written yet.
    waiting = [form]
    while waiting:
        part = waiting.pop()
        if isinstance(part, str):
            written.append(part)
        else:
            waiting.extend(list(reversed(_parts_of(part))))
    return "".join(written)


def _parts_of(form):
    """The written parts of a form, with the forms inside it in their places."""
    if form[0] == "choice":
        parts = []
        for member in form[1]:
            parts.extend([" ", member])
        parts = ["["] + parts[1:] + ["]"]
    else:
        parts = [form[1]]
        if form[2]:
            for item in form[2]:
                parts.append(" ")
                parts.extend(_parts_of_item(item))
            parts = ["("] + parts + [")"]
    if form[-1] != "":
        parts.append(" @" + form[-1])
    return parts


def _parts_of_item(item):
    if item[0] == "anchor":
        return ["."]
    if item[0] == "absent":
        return ["!" + item[1]]
    if item[0] == "inside":
        return [">> ", item[1]]
    _, label, form, optional = item
    parts = [form]
    if label != "":
        parts = [label + ":", form]
    if optional:
        parts.append("?")
    return parts
