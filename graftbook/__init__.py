"""Graftbook: differences of trees, with papers."""
