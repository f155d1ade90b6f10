"""Touchboats: who touched whom, and who may be head."""
