"""Shortest right-angled trees through points."""
