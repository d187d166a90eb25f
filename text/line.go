package text

import (
	"iter"
	"strconv"
	"strings"

	"cubby/api"
	"cubby/ir"
)

const mostNumber = 1<<31 - 1

// part is what a word of a line is of: a name, or a number. Lines are written out of parts, and read into them.
type part struct {
	name   *string
	number *int
}

// page is a text that grows line by line; behind its first error it stays as it is.
type page struct {
	text strings.Builder
	err  api.Errno
}

// line puts a line together.
func (p *page) line(word string, parts ...part) {
	if p.err == api.OK {
		p.err = check(parts)
	}
	if p.err != api.OK {
		return
	}
	p.text.WriteString(word)
	for _, x := range parts {
		p.text.WriteByte(' ')
		if x.name != nil {
			p.text.WriteString(*x.name)
		} else {
			p.text.WriteString(strconv.Itoa(*x.number))
		}
	}
	p.text.WriteByte('\n')
}

// ins puts an instruction's line together.
func (p *page) ins(k kind, x api.Ins) {
	r, ok := rowOf(k, x.Op)
	if !ok && p.err == api.OK {
		p.err = api.ErrWord
	}
	p.line(r.word, r.parts(&x)...)
}

// check tells what is wrong first: names come ahead of numbers, wherever they stand in the line.
func check(parts []part) api.Errno {
	for _, x := range parts {
		if x.name != nil && !ir.Name(*x.name) {
			return api.ErrWord
		}
	}
	for _, x := range parts {
		if x.number != nil && !fits(*x.number) {
			return api.ErrNumber
		}
	}
	return api.OK
}

func fits(n int) bool { return 0 <= n && n <= mostNumber }

// lines tells the lines of s, by their numbers, as their words; of one without a line feed there are none.
func lines(s string) iter.Seq2[int, []string] {
	return func(yield func(int, []string) bool) {
		for n := 1; s != ""; n++ {
			text, rest, ended := strings.Cut(s, "\n")
			var words []string
			if ended {
				words = strings.Split(text, " ")
			}
			if !yield(n, words) {
				return
			}
			s = rest
		}
	}
}

// take reads words into parts, which are to be as many.
func take(words []string, parts ...part) api.Errno {
	if len(words) != len(parts) {
		return api.ErrWord
	}
	for i, p := range parts {
		if p.name != nil {
			if !ir.Name(words[i]) {
				return api.ErrWord
			}
			*p.name = words[i]
			continue
		}
		n, ok := number(words[i])
		if !ok {
			return api.ErrNumber
		}
		*p.number = n
	}
	return api.OK
}

// number is the number whose word is w. It is written again, as one number may be read from many words.
func number(w string) (int, bool) {
	n, err := strconv.Atoi(w)
	if err != nil || !fits(n) || strconv.Itoa(n) != w {
		return 0, false
	}
	return n, true
}
