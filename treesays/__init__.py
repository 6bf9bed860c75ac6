"""Treesays: what holds in all words and trees."""
