"""Knockwell: lines at which devices knock, tops that nest by rank, and bottoms and threads behind them."""
