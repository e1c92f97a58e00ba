// Package tally is layer 3: named counters, see shared/doc/03-tally.md.
package tally

import (
	"iter"
	"slices"
	"sync/atomic"

	"vitrine/api"
)

// Tally is a fixed set of counters: its names never change, so that only the counts need to be atomic.
type Tally struct {
	names  []string // increasing
	counts []atomic.Uint64
}

func New(names ...string) (*Tally, api.Errno) {
	if len(names) > api.MaxTally {
		return nil, api.ErrLong
	}
	for _, name := range names {
		if name == "" || len(name) > api.MaxName {
			return nil, api.ErrForm
		}
	}
	sorted := slices.Clone(names)
	slices.Sort(sorted)
	for i := 1; i < len(sorted); i++ {
		if sorted[i-1] == sorted[i] {
			return nil, api.ErrArg
		}
	}
	return &Tally{names: sorted, counts: make([]atomic.Uint64, len(sorted))}, api.OK
}

// count returns nil for a nil tally, too, so that its callers need not ask.
func (t *Tally) count(name string) *atomic.Uint64 {
	if t == nil {
		return nil
	}
	i, ok := slices.BinarySearch(t.names, name)
	if !ok {
		return nil
	}
	return &t.counts[i]
}

func (t *Tally) Add(name string, n uint64) bool {
	count := t.count(name)
	if count == nil {
		return false
	}
	count.Add(n)
	return true
}

func (t *Tally) Get(name string) uint64 {
	count := t.count(name)
	if count == nil {
		return 0
	}
	return count.Load()
}

func (t *Tally) Most(name string, n uint64) bool {
	count := t.count(name)
	if count == nil {
		return false
	}
	for {
		old := count.Load()
		// A swap fails only if another call has changed the counter meanwhile.
		if old >= n || count.CompareAndSwap(old, n) {
			return true
		}
	}
}

func (t *Tally) Take(name string) uint64 {
	count := t.count(name)
	if count == nil {
		return 0
	}
	return count.Swap(0)
}

// All takes the values when it is called: what an iterator yields does not hang on later calls.
func (t *Tally) All() iter.Seq2[string, uint64] {
	names := t.Names()
	values := make([]uint64, len(names))
	for i := range values {
		values[i] = t.counts[i].Load()
	}
	return func(yield func(string, uint64) bool) {
		for i, name := range names {
			if !yield(name, values[i]) {
				return
			}
		}
	}
}

func (t *Tally) Reset() {
	if t == nil {
		return
	}
	for i := range t.counts {
		t.counts[i].Store(0)
	}
}

func (t *Tally) Names() []string {
	if t == nil {
		return nil
	}
	return slices.Clone(t.names)
}

// Sum looks for all names before it adds, since it may not stop half-way.
func (t *Tally) Sum(other *Tally) bool {
	if t == nil {
		return false
	}
	for name := range other.All() {
		if t.count(name) == nil {
			return false
		}
	}
	for name, n := range other.All() {
		t.Add(name, n)
	}
	return true
}
