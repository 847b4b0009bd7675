"""Accounts, rates and months: what work costs, and who pays for it."""
