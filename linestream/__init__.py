"""Linestream: scripts that go through texts line by line."""
