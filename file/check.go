package file

import (
	"slices"

	"colscan/api"
)

// writable tells whether a table is within the bounds.
func writable(t api.Table) bool {
	if !RightNames(t.Names) || len(t.Groups) > api.MaxGroups {
		return false
	}
	for _, group := range t.Groups {
		if !rightGroup(group, len(t.Names)) {
			return false
		}
	}
	return true
}

// RightNames tells whether a file may have columns of these names.
func RightNames(names []string) bool {
	if len(names) < 1 || len(names) > api.MaxColumns {
		return false
	}
	for i, name := range names {
		if len(name) < 1 || len(name) > api.MaxName || slices.Contains(names[:i], name) {
			return false
		}
	}
	return true
}

// rightGroup takes columns to be 1 at least.
func rightGroup(group [][]int, columns int) bool {
	if len(group) != columns {
		return false
	}
	rows := len(group[0])
	if rows < 1 || rows > api.MaxRows {
		return false
	}
	for _, list := range group {
		if len(list) != rows || slices.ContainsFunc(list, wrongValue) {
			return false
		}
	}
	return true
}

func wrongValue(n int) bool {
	return n < 0 || n > api.MaxValue
}
