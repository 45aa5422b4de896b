"""Onceeach: functions on few numbers that take each worth once."""
