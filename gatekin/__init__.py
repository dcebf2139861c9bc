"""Gatekin: gates, what can be made of them, and what they keep."""
