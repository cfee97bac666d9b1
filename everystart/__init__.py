"""Everystart: programs that throw dice, known for every start at once."""
