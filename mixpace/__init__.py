"""Mixpace: mixes of dishes that a kitchen can keep up for ever."""
