"""Callboard: calls, wishes, and where two of them clash."""
