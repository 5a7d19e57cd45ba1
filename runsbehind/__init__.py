"""Runsbehind: what counts on edges tell of the runs behind them."""
