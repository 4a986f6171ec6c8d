"""Forktales: branching stories run from their texts."""
