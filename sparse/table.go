package sparse

import (
	"maps"
	"slices"
)

// A table is values by their indices, of which it holds those alone that aren't nought: what it doesn't hold is nought.
type table[V comparable] map[uint64]V

// set makes the value at an index this one. A nought is deleted, so that a table holds no more than there is.
func (t table[V]) set(index uint64, value V) {
	var nought V
	if value == nought {
		delete(t, index)
		return
	}
	t[index] = value
}

// indices are those of the values that aren't nought, rising.
func (t table[V]) indices() []uint64 { return slices.Sorted(maps.Keys(t)) }
