package pack

import "cubby/api"

// Record is x as bytes.
func Record(x api.Record) string {
	var w Writer
	w.Number(x.Kind)
	w.Text(x.Key)
	if x.Kind == api.Put {
		w.Text(x.Value)
	}
	return w.Bytes()
}

// Unrecord is the record whose bytes are s.
func Unrecord(s string) (api.Record, api.Errno) {
	x, err := record(Read(s))
	if err != api.OK {
		return api.Record{}, err
	}
	return x, api.OK
}

// record takes a record, which nothing follows; what it tells beside an error is what it has so far.
func record(r *Reader) (x api.Record, err api.Errno) {
	if x.Kind, err = r.Number(); err != api.OK {
		return x, err
	}
	if x.Kind != api.Put && x.Kind != api.Del {
		return x, api.ErrForm
	}
	if x.Key, err = r.Text(); err != api.OK {
		return x, err
	}
	if x.Kind == api.Put {
		if x.Value, err = r.Text(); err != api.OK {
			return x, err
		}
	}
	return x, r.End()
}
