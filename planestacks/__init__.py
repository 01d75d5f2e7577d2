"""Planestacks: sayings about two numbers, settled by stacks of cells."""
