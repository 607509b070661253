"""Loomwright: a weaver's house. Each of its modules is used by its full name."""
