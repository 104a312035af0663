"""Voucherstack: vouchers at a till, one behind the other."""
