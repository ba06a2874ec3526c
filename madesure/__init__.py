"""Madesure: trees of makers decided, each yes with trees, each no with a paper."""
