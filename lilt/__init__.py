"""Lilt: verse said and weighed by told rules."""
