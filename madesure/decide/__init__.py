"""Sums, classes and sheets decided."""
