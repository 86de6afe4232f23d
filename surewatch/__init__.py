"""Surewatch: sayings about rows, watchers that tell when they are sure, and small checkers."""
