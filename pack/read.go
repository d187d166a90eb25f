package pack

import "cubby/api"

// Reader takes bytes.
type Reader struct{ rest string }

// Read is a Reader of s, from its first byte on.
func Read(s string) *Reader { return &Reader{rest: s} }

// Number takes the number whose code comes next.
func (r *Reader) Number() (int, api.Errno) {
	n := 0
	for i := range len(r.rest) {
		if i == mostDigits {
			return 0, api.ErrForm
		}
		b := r.rest[i]
		n += int(b%base) << (7 * i)
		if b >= more {
			continue
		}
		if b == 0 && i > 0 {
			return 0, api.ErrForm
		}
		r.rest = r.rest[i+1:]
		return n, api.OK
	}
	return 0, api.ErrShort
}

// Text takes a number, and so many bytes.
func (r *Reader) Text() (string, api.Errno) {
	s := ""
	err := r.whole(func() api.Errno {
		n, err := r.Number()
		if err != api.OK {
			return err
		}
		if n > len(r.rest) {
			return api.ErrShort
		}
		s, r.rest = r.rest[:n], r.rest[n:]
		return api.OK
	})
	return s, err
}

// whole lets take do its work, and puts back what it took if it went wrong halfway.
func (r *Reader) whole(take func() api.Errno) api.Errno {
	rest := r.rest
	err := take()
	if err != api.OK {
		r.rest = rest
	}
	return err
}

// End tells whether a byte is left.
func (r *Reader) End() api.Errno {
	if r.rest != "" {
		return api.ErrForm
	}
	return api.OK
}
