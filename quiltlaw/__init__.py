"""Quiltlaw: which pictures a grammar makes, and at what cost."""
