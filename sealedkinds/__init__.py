"""Sealedkinds: modules whose kinds are sealed by faces."""
