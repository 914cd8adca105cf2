"""Pickfloor: makes of wares picked so that all needs are met, or the reasons why none can be."""
