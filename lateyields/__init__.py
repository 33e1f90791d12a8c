"""Lateyields: walks that wait, are left early, and are cleaned up by a loop."""
