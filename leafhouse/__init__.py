"""Leafhouse: a great table kept in pages."""
