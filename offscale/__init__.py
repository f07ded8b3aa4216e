"""Offscale: workings on slide rules, decided for all operands."""
