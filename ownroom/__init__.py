"""Ownroom: a small kernel in which each task has a room of its own."""
