"""Written forms of stacks, shuffles, cards, code and certificates."""


def stack_text(stack):
    """Return the written form of the stack."""
    return " ".join(stack) or "-"


def shuffle_text(instructions):
    """Return the written form of the instructions."""
    return " ".join([_item_text(instruction) for instruction in instructions]) or "-"


def card_text(card):
    """Return the written form of the card."""
    depth, word = card
    return f"{depth}: {numbers_text(word)}"


def code_text(code):
    """Return the written form of the code."""
    text, gap = "", ""
    for item in code:
        text += gap + _item_text(item)
        gap = "\n" if item[0] == "call" else " "
    return text or "-"


def certificate_text(certificate):
    """Return the written form of the blocked certificate."""
    floor, witnesses, reason, detail = certificate
    shown = stack_text(detail) if isinstance(detail, tuple) else str(detail)
    return f"floor {floor}, witnesses {stack_text(witnesses)}: {reason} {shown}"


def numbers_text(numbers):
    """Return the numbers with single spaces between them, or the sign for nothing."""
    return " ".join([str(number) for number in numbers]) or "-"


def _item_text(item):
    """Return the word for an instruction or a call."""
    if item[0] == "call":
        return f"{item[1]}/{item[2]}"
    return "".join([str(part) for part in item])
