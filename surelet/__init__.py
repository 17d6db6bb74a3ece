"""Rates and quotas over several servers, with a reason for each no."""
