"""Choosers that are never further behind than told, and foes that show it."""
