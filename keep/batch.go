package keep

import (
	"cubby/api"
	"cubby/pack"
)

// batch is recs as bytes: how many there are, and each as a text.
func batch(recs []api.Record) string {
	var w pack.Writer
	w.Number(len(recs))
	for _, rec := range recs {
		w.Text(pack.Record(rec))
	}
	return w.Bytes()
}

// unbatch is the records of the batch s, none if it is no batch: half of one must never be taken.
func unbatch(s string) []api.Record {
	r := pack.Read(s)
	many, err := r.Number()
	if err != api.OK {
		return nil
	}
	var recs []api.Record
	for range many {
		rec, err := record(r)
		if err != api.OK {
			return nil
		}
		recs = append(recs, rec)
	}
	if r.End() != api.OK {
		return nil
	}
	return recs
}

// record takes the next record of a batch.
func record(r *pack.Reader) (api.Record, api.Errno) {
	s, err := r.Text()
	if err != api.OK {
		return api.Record{}, err
	}
	return pack.Unrecord(s)
}
