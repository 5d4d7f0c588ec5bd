"""Code without jumps to jumps and without instructions that are not reached."""

ADDRESSED = ("use", "if", "again", "guard", "jump")
WITHOUT_NEXT = ("jump", "draw", "stop", "end", "done")


def tightened(code):
    """The tightened code of one process."""
    straight = [straightened(code, instruction) for instruction in code]
    met = reached(straight)
    numbers = {address: number for number, address in enumerate(met)}
    rows = []
    for address in met:
        instruction = straight[address]
        places = tuple(numbers[place] for place in addresses_of(instruction))
        rows.append(with_addresses(instruction, places))
    return tuple(rows)


def addresses_of(instruction):
    """The addresses in an instruction."""
    if instruction[0] == "draw":
        return instruction[2]
    if instruction[0] in ADDRESSED:
        return (instruction[-1],)
    return ()


def with_addresses(instruction, addresses):
    """The same instruction with as many other addresses."""
    if instruction[0] == "draw":
        return (*instruction[:2], addresses)
    if instruction[0] in ADDRESSED:
        return (*instruction[:-1], *addresses)
    return instruction


def straightened(code, instruction):
    """The instruction with addresses that are those of no jump."""
    addresses = tuple(behind_jumps(code, address) for address in addresses_of(instruction))
    return with_addresses(instruction, addresses)


def behind_jumps(code, address):
    """Where jumps lead from here. No row of jumps ends in itself: each cycle pauses."""
    while code[address][0] == "jump":
        address = code[address][1]
    return address


def reached(code):
    """The addresses that are reached, ascending."""
    found = {}
    rest = [0]
    while rest:
        address = rest.pop()
        if address not in found:
            found[address] = True
            instruction = code[address]
            rest.extend(addresses_of(instruction))
            if instruction[0] not in WITHOUT_NEXT:
                rest.append(address + 1)
    return sorted(list(found))
