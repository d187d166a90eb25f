package ir

import (
	"math"
	"slices"
	"strings"
	"testing"

	"cubby/api"
)

// odd are numbers that are no Op of a function.
var odd = []int{math.MinInt, -1, 0, 15, 16, 20, api.Fetch, api.Save, 23, 256 + api.Const, math.MaxInt}

// full is an instruction of an Op with all fields unlike one another.
func full(op int) api.Ins {
	return api.Ins{Op: op, D: 1, A: 2, B: 3, Name: "f", Args: []int{4, 5, 4}}
}

// P7.1: Name.
func TestName(t *testing.T) {
	for _, s := range []string{"f", "a", "z", "a0", "z9", "az09", "abcdefghijkl", "a12345678901", "func"} {
		if !Name(s) {
			t.Errorf("%q is a name", s)
		}
	}
	for _, s := range []string{
		"", "0", "9", "0a", "9z", "abcdefghijklm", "a123456789012", strings.Repeat("a", 5000),
		"A", "aB", "a ", " a", "a b", "a_", "a-b", "a.", "a\n", "a\x00", "\x00", "aé", "é", "\xff", "a\xe1",
	} {
		if Name(s) {
			t.Errorf("%q is no name", s)
		}
	}
}

// P7.1: of all bytes, as the first one, and behind another.
func TestNameBytes(t *testing.T) {
	for i := range 256 {
		s := string([]byte{byte(i)})
		digit := strings.Contains("0123456789", s)
		letter := strings.Contains("abcdefghijklmnopqrstuvwxyz", s)
		if Name(s) != letter {
			t.Errorf("%q alone: %v", s, !letter)
		}
		for _, long := range []string{"x" + s, "xy" + s + "z"} {
			if Name(long) != (letter || digit) {
				t.Errorf("%q: %v", long, Name(long))
			}
		}
	}
}

// P7.1: Last.
func TestLast(t *testing.T) {
	for op := -300; op <= 300; op++ {
		want := op == api.Jump || op == api.Branch || op == api.Ret
		if Last(op) != want {
			t.Errorf("%d: %v", op, !want)
		}
	}
	for _, op := range odd {
		if Last(op) {
			t.Errorf("%d: true", op)
		}
	}
}

// P7.1: Same, and that each field counts.
func TestSame(t *testing.T) {
	others := []api.Ins{
		{Op: 2, D: 1, A: 2, B: 3, Name: "f", Args: []int{4, 5, 4}},
		{Op: 1, D: 2, A: 2, B: 3, Name: "f", Args: []int{4, 5, 4}},
		{Op: 1, D: 1, A: 1, B: 3, Name: "f", Args: []int{4, 5, 4}},
		{Op: 1, D: 1, A: 2, B: 2, Name: "f", Args: []int{4, 5, 4}},
		{Op: 1, D: 1, A: 2, B: 3, Name: "g", Args: []int{4, 5, 4}},
		{Op: 1, D: 1, A: 2, B: 3, Name: "", Args: []int{4, 5, 4}},
		{Op: 1, D: 1, A: 2, B: 3, Name: "f", Args: []int{4, 5}},
		{Op: 1, D: 1, A: 2, B: 3, Name: "f", Args: []int{4, 5, 4, 4}},
		{Op: 1, D: 1, A: 2, B: 3, Name: "f", Args: []int{4, 4, 5}},
		{Op: 1, D: 1, A: 2, B: 3, Name: "f", Args: []int{3, 5, 4}},
		{Op: 1, D: 1, A: 2, B: 3, Name: "f"},
		{},
	}
	if !Same(full(1), full(1)) || !Same(api.Ins{}, api.Ins{}) {
		t.Error("the same are not the same")
	}
	for _, x := range others {
		if Same(x, full(1)) || Same(full(1), x) {
			t.Errorf("%v is the same", x)
		}
		if !Same(x, x) {
			t.Errorf("%v is not the same", x)
		}
	}
	for _, op := range odd {
		if !Same(full(op), full(op)) {
			t.Errorf("%d: not the same", op)
		}
	}
}

// P7.1: a list without elements may be nil or not; spare room is none of a list.
func TestSameLists(t *testing.T) {
	a, b := full(api.Ret), full(api.Ret)
	a.Args, b.Args = nil, []int{}
	if !Same(a, b) || !Same(b, a) {
		t.Error("no elements are no elements")
	}
	a.Args, b.Args = []int{1, 2, 3}[:2], []int{1, 2, 4}[:2]
	if !Same(a, b) {
		t.Error("what lies behind a list's length was looked at")
	}
}

// reads is what full has of each Op.
var reads = []struct {
	op      int
	uses    []int
	def     int
	targets []int
}{
	{api.Const, nil, 1, nil},
	{api.Copy, []int{2}, 1, nil},
	{api.Add, []int{2, 3}, 1, nil},
	{api.Sub, []int{2, 3}, 1, nil},
	{api.Mul, []int{2, 3}, 1, nil},
	{api.Less, []int{2, 3}, 1, nil},
	{api.Div, []int{2, 3}, 1, nil},
	{api.Load, []int{2}, 1, nil},
	{api.Store, []int{2, 3}, -1, nil},
	{api.Out, []int{2}, -1, nil},
	{api.Call, []int{4, 5, 4}, 1, nil},
	{api.Jump, nil, -1, []int{2}},
	{api.Branch, []int{2}, -1, []int{3, 1}},
	{api.Ret, []int{2}, -1, nil},
}

// P7.2: of each Op, and of such that are in no table.
func TestReads(t *testing.T) {
	for _, r := range reads {
		x := full(r.op)
		if got := Uses(x); !slices.Equal(got, r.uses) {
			t.Errorf("%d: Uses %v", r.op, got)
		}
		if got := Def(x); got != r.def {
			t.Errorf("%d: Def %d", r.op, got)
		}
		if got := Targets(x); !slices.Equal(got, r.targets) {
			t.Errorf("%d: Targets %v", r.op, got)
		}
	}
	for _, op := range odd {
		x := full(op)
		if Def(x) != -1 || len(Uses(x)) > 0 || len(Targets(x)) > 0 {
			t.Errorf("%d: %v, %d, %v", op, Uses(x), Def(x), Targets(x))
		}
	}
}

// P7.2: as often as they stand there, whatever the numbers are.
func TestReadsAnyNumbers(t *testing.T) {
	for _, n := range []int{math.MinInt, -1, 0, 7, api.MaxRegs, math.MaxInt} {
		x := api.Ins{Op: api.Add, D: n, A: n, B: n}
		if Def(x) != n || !slices.Equal(Uses(x), []int{n, n}) {
			t.Errorf("%d: %d, %v", n, Def(x), Uses(x))
		}
		x = api.Ins{Op: api.Branch, D: n, A: n, B: n}
		if Def(x) != -1 || !slices.Equal(Uses(x), []int{n}) || !slices.Equal(Targets(x), []int{n, n}) {
			t.Errorf("%d: %d, %v, %v", n, Def(x), Uses(x), Targets(x))
		}
		x = api.Ins{Op: api.Call, D: n, Args: []int{n, n, n}}
		if Def(x) != n || !slices.Equal(Uses(x), []int{n, n, n}) {
			t.Errorf("%d: %d, %v", n, Def(x), Uses(x))
		}
	}
}

// P7.2: the chapter's examples, and a call of no values and of more than there may be.
func TestUsesOfLists(t *testing.T) {
	if got := Uses(api.Ins{Op: api.Store, A: 1, B: 2}); !slices.Equal(got, []int{1, 2}) {
		t.Error(got)
	}
	if got := Uses(api.Ins{Op: api.Call, Args: []int{3, 3}}); !slices.Equal(got, []int{3, 3}) {
		t.Error(got)
	}
	if got := Uses(api.Ins{Op: api.Call, D: 3}); len(got) > 0 {
		t.Error(got)
	}
	long := make([]int, 5000)
	for i := range long {
		long[i] = i
	}
	if got := Uses(api.Ins{Op: api.Call, Args: long}); !slices.Equal(got, long) {
		t.Error(len(got))
	}
}

// R3: an answer is new memory, and what is handed in stays what it was, its spare room too.
func TestNewMemory(t *testing.T) {
	for _, r := range reads {
		room := []int{4, 5, 4, 6, 7}
		x := full(r.op)
		x.Args = room[:3]
		spoil(Uses(x))
		spoil(Targets(x))
		if !slices.Equal(room, []int{4, 5, 4, 6, 7}) {
			t.Errorf("%d: %v", r.op, room)
		}
		if got := Uses(x); !slices.Equal(got, r.uses) {
			t.Errorf("%d: then %v", r.op, got)
		}
	}
}

// spoil makes all of a list another one, its spare room too.
func spoil(list []int) {
	list = list[:cap(list)]
	for i := range list {
		list[i] = -7
	}
}
