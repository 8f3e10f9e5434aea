"""Idealtwin: a switch with slow sides that imitates the ideal one."""
