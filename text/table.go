package text

import "cubby/api"

// kind is what a text is of.
type kind int

const (
	either kind = iota
	functions
	code
)

const blockWord = "block"

// first is the word of the first line.
func (k kind) first() string {
	if k == functions {
		return "func"
	}
	return "code"
}

// head are the parts of c that the first line has.
func head(k kind, c *api.Code) []part {
	parts := []part{{name: &c.Name}, {number: &c.Params}, {number: &c.Regs}}
	if k == code {
		parts = append(parts, part{number: &c.Slots})
	}
	return parts
}

// row is how an instruction is written.
type row struct {
	op     int
	word   string
	fields string // what is behind the word: D, A and B as they stand there, N for Name
	args   bool   // and then Args
	only   kind   // where it may stand
}

var rows = [...]row{
	{op: api.Const, word: "const", fields: "DA"},
	{op: api.Copy, word: "copy", fields: "DA"},
	{op: api.Add, word: "add", fields: "DAB"},
	{op: api.Sub, word: "sub", fields: "DAB"},
	{op: api.Mul, word: "mul", fields: "DAB"},
	{op: api.Less, word: "less", fields: "DAB"},
	{op: api.Div, word: "div", fields: "DAB"},
	{op: api.Load, word: "load", fields: "DA"},
	{op: api.Store, word: "store", fields: "AB"},
	{op: api.Out, word: "out", fields: "A"},
	{op: api.Call, word: "call", fields: "DN", args: true, only: functions},
	{op: api.Call, word: "call", fields: "DNA", only: code},
	{op: api.Jump, word: "jump", fields: "A"},
	{op: api.Branch, word: "branch", fields: "ABD"},
	{op: api.Ret, word: "ret", fields: "A"},
	{op: api.Fetch, word: "fetch", fields: "DA", only: code},
	{op: api.Save, word: "save", fields: "DA", only: code},
}

func (r row) standsIn(k kind) bool { return r.only == either || r.only == k }

// rowOf is the row of op.
func rowOf(k kind, op int) (row, bool) {
	for _, r := range rows {
		if r.op == op && r.standsIn(k) {
			return r, true
		}
	}
	return row{}, false
}

// rowBy is the row of word.
func rowBy(k kind, word string) (row, bool) {
	for _, r := range rows {
		if r.word == word && r.standsIn(k) {
			return r, true
		}
	}
	return row{}, false
}

// parts are those of x that are behind the word.
func (r row) parts(x *api.Ins) []part {
	var parts []part
	for _, f := range r.fields {
		switch f {
		case 'D':
			parts = append(parts, part{number: &x.D})
		case 'A':
			parts = append(parts, part{number: &x.A})
		case 'B':
			parts = append(parts, part{number: &x.B})
		case 'N':
			parts = append(parts, part{name: &x.Name})
		}
	}
	if r.args {
		for i := range x.Args {
			parts = append(parts, part{number: &x.Args[i]})
		}
	}
	return parts
}
