package keep

import (
	"maps"
	"slices"
	"strings"

	"cubby/api"
	"cubby/sum"
)

// table is values by keys: of each key the Put of it. Keys of one digest share a bucket, and are told apart as texts.
type table struct {
	buckets map[uint64][]api.Record
	bytes   int
}

func newTable() *table { return &table{buckets: map[uint64][]api.Record{}} }

// clone is a table that goes on by itself. Buckets are shared, as they are never changed but made anew.
func (t *table) clone() *table {
	return &table{buckets: maps.Clone(t.buckets), bytes: t.bytes}
}

// get is the value at key, and whether there is one.
func (t *table) get(key string) (string, bool) {
	for _, put := range t.buckets[sum.Mix(key)] {
		if put.Key == key {
			return put.Value, true
		}
	}
	return "", false
}

// take takes recs, in their order.
func (t *table) take(recs []api.Record) {
	for _, rec := range recs {
		t.takeOne(rec)
	}
}

// takeOne makes the bucket of rec's key anew: without what was there at that key, with rec if it is a Put.
func (t *table) takeOne(rec api.Record) {
	digest := sum.Mix(rec.Key)
	var bucket []api.Record
	for _, put := range t.buckets[digest] {
		if put.Key == rec.Key {
			t.bytes -= size(put)
		} else {
			bucket = append(bucket, put)
		}
	}
	if rec.Kind == api.Put {
		t.bytes += size(rec)
		bucket = append(bucket, rec)
	}
	if len(bucket) == 0 {
		delete(t.buckets, digest)
		return
	}
	t.buckets[digest] = bucket
}

// same tells whether t is what was is, from which it came by taking recs: at other keys than theirs nothing can differ.
func (t *table) same(was *table, recs []api.Record) bool {
	for _, rec := range recs {
		value, ok := t.get(rec.Key)
		before, had := was.get(rec.Key)
		if value != before || ok != had {
			return false
		}
	}
	return true
}

// puts is the Puts of all keys, rising.
func (t *table) puts() []api.Record {
	var all []api.Record
	for _, bucket := range t.buckets {
		all = append(all, bucket...)
	}
	slices.SortFunc(all, func(a, b api.Record) int { return strings.Compare(a.Key, b.Key) })
	return all
}

// size is how many bytes the key and the value of put have.
func size(put api.Record) int { return len(put.Key) + len(put.Value) }
