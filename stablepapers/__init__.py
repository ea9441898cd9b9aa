"""Stablepapers: answer sets whose every answer comes with a certificate."""
