"""Lifehold: holdings held for lives whose days of death are half known."""
