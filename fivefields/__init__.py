"""Fivefields: moments told by five fields."""
