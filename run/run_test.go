package run_test

import (
	"errors"
	"fmt"
	"math"
	"reflect"
	"slices"
	"strings"
	"testing"

	"furrow/api"
	"furrow/run"
	"furrow/sema"
	"furrow/tree"
)

const plenty = 100000

func parsed(t *testing.T, s string) ([]tree.Node, sema.Table) {
	t.Helper()
	l, _, err := tree.Parse(s)
	if err != nil {
		t.Fatalf("P701: Parse(%.80q): %v", s, err)
	}
	x, err := sema.Check(l)
	if err != nil {
		t.Fatalf("P801: Check of %.80q: %v", s, err)
	}
	return l, x
}

func told(r run.Result) string {
	return fmt.Sprint(r.Out, " ", r.Err, " ", r.Line, " ", r.Steps, " ", r.Read, " ", []int64(r.Store))
}

// ran asks Run and Text both, and what holds of all answers.
func ran(t *testing.T, s string, in []int64, fuel int) run.Result {
	t.Helper()
	l, x := parsed(t, s)
	r := run.Run(l, x, in, fuel)
	y, err := run.Text(s, in, fuel)
	if err != nil || told(y) != told(r) {
		t.Errorf("P1001: Text(%.80q): %s, %v; want %s", s, told(y), err, told(r))
	}
	var f *api.Fault
	switch {
	case len(r.Store) != int(x.Cells):
		t.Errorf("P1001: Run of %.80q: %d cells; want %d", s, len(r.Store), x.Cells)
	case r.Steps < 0 || r.Steps > max(fuel, 0) || r.Read < 0 || r.Read > len(in):
		t.Errorf("P1001: Run of %.80q: %d steps, %d read", s, r.Steps, r.Read)
	case r.Err == nil && r.Line != -1:
		t.Errorf("P1001: Run of %.80q: Line %d without an error", s, r.Line)
	case r.Err != nil && (!errors.As(r.Err, &f) || f.At != r.Line):
		t.Errorf("P1001: Run of %.80q: %v At Line %d", s, r.Err, r.Line)
	case r.Err != nil && (f.Part == "fuel") != errors.Is(r.Err, api.ErrFuel) || r.Err != nil && f.Part != "fuel" && f.Part != "line":
		t.Errorf("P1001: Run of %.80q: %v", s, r.Err)
	}
	return r
}

func ends(t *testing.T, s string, in []int64, fuel int, want string) {
	t.Helper()
	if got := told(ran(t, s, in, fuel)); got != want {
		t.Errorf("P1001: Run of %q with %v, fuel %d: %s; want %s", s, in, fuel, got, want)
	}
}

// prints tells whether it goes to its end, and just these numbers come out.
func prints(t *testing.T, s string, in []int64, want ...int64) {
	t.Helper()
	if r := ran(t, s, in, plenty); r.Err != nil || !slices.Equal(r.Out, want) {
		t.Errorf("P1001: Run of %q: %v, %v; want %v", s, r.Out, r.Err, want)
	}
}

// trapped tells whether Err is a Fault `line` that wraps just that Fault, and that one the Errno, and nothing else.
func trapped(t *testing.T, s string, in []int64, line int, part string, at int, why api.Errno) run.Result {
	t.Helper()
	r := ran(t, s, in, plenty)
	want := &api.Fault{Part: "line", At: line, Err: &api.Fault{Part: part, At: at, Err: why}}
	if !reflect.DeepEqual(r.Err, error(want)) || !errors.Is(r.Err, why) {
		t.Errorf("P1001: Run of %q: %v; want %v", s, r.Err, want)
	}
	return r
}

func starved(t *testing.T, s string, fuel, line int) run.Result {
	t.Helper()
	r := ran(t, s, nil, fuel)
	want := &api.Fault{Part: "fuel", At: line, Err: api.ErrFuel}
	if !reflect.DeepEqual(r.Err, error(want)) || !errors.Is(r.Err, api.ErrFuel) || r.Steps != max(fuel, 0) {
		t.Errorf("P1001: Run of %q with fuel %d: %v, %d steps; want %v", s, fuel, r.Err, r.Steps, want)
	}
	return r
}

func TestOrder(t *testing.T) {
	ends(t, "", nil, 0, "[] <nil> -1 0 0 []")
	ends(t, "\n! a note\n\n", nil, 0, "[] <nil> -1 0 0 []")
	ends(t, "integer x, a(2, 2)\ninteger y\n", nil, 0, "[] <nil> -1 0 0 [0 0 0 0 0 0]")
	ends(t, "integer a(4096)\nprint a(1) + a(2048) + a(4096)", nil, 1, fmt.Sprint("[0] <nil> -1 1 0 ", make([]int64, 4096)))
	ends(t, "integer x, y\nx = 1\ny = x + 1\nx = y + 1\nprint x\nprint y", nil, 5, "[3 2] <nil> -1 5 0 [3 2]")
	ends(t, "integer x\nx = x - 1\nprint x\n\nx = x * 7\nprint x", nil, 4, "[-1 -7] <nil> -1 4 0 [-7]")
	ends(t, "integer x\nprint 1\nprint 2 / x\nprint 3", nil, 9, "[1] line 2: div 0: zero 2 2 0 [0]")
	ends(t, "print -9223372036854775807 - 1\nprint 9223372036854775807", nil, 2, "[-9223372036854775808 9223372036854775807] <nil> -1 2 0 []")
}

// Each statement that is begun is one step, each turn one more; a Decl, an end, an else, an empty line are none.
func TestSteps(t *testing.T) {
	for s, want := range map[string]int{
		"":            0,
		"integer x\n": 0,
		"\n\nprint 1": 1,
		"integer x":   0,
		"integer x, a(3)\ninteger y\nx = 1\n! note\ny = 2\n":         2,
		"integer x\nread x\nread x\nprint x":                         3,
		"integer i\ndo i = 1, 0\nend do":                             1,
		"integer i\ndo i = 1, 1\nend do":                             2,
		"integer i\ndo i = 1, 5\nend do":                             6,
		"integer i\ndo i = 1, 5\nprint i\nend do":                    11,
		"integer i\ndo i = 1, 5\n\nprint i\n! note\nprint i\nend do": 16,
		"integer i, j\ndo i = 1, 3\ndo j = 1, i\nend do\nend do":     1 + 3*2 + 6,
		"if (1 < 2) then\nend if":                                    1,
		"if (1 > 2) then\nelse\nend if":                              1,
		"if (1 < 2) then\nprint 1\nelse\nprint 2\nprint 3\nend if":   2,
		"if (1 > 2) then\nprint 1\nelse\nprint 2\nprint 3\nend if":   3,
		"if (1 < 2) then\nif (1 < 2) then\nend if\nend if\nprint 1":  3,
	} {
		r := ran(t, s, []int64{4, 5}, plenty)
		if r.Err != nil || r.Steps != want {
			t.Errorf("P1001: Run of %q: %d steps, %v; want %d", s, r.Steps, r.Err, want)
		}
		if again := ran(t, s, []int64{4, 5}, want); told(again) != told(r) {
			t.Errorf("P1001: Run of %q with fuel %d: %s; want %s", s, want, told(again), told(r))
		}
	}
}

func TestFuel(t *testing.T) {
	for _, fuel := range []int{0, -1, math.MinInt} {
		for _, s := range []string{"print 1", "if (1 / 0 < 2) then\nend if"} {
			starved(t, s, fuel, 0)
		}
		for _, s := range []string{"integer x\nx = 1 / 0", "integer x\ndo x = 1 / 0, 2\nend do", "integer a(1)\nread a(2)", "integer x\nread x"} {
			starved(t, s, fuel, 1)
		}
		ends(t, "integer x", nil, fuel, "[] <nil> -1 0 0 [0]")
	}
	ends(t, "integer x\nx = 5\nprint x\nx = 6", nil, 2, "[5] fuel 3: fuel 3 2 0 [5]")
	ends(t, "integer x\nx = 5\nprint x\nx = 6", nil, 3, "[5] <nil> -1 3 0 [6]")
	ends(t, "integer x\nx = 5\nprint x\nx = 6", nil, math.MaxInt, "[5] <nil> -1 3 0 [6]")
	ends(t, "integer x\nread x\nread x", []int64{8, 9}, 1, "[] fuel 2: fuel 2 1 1 [8]")
	ends(t, "if (1 < 2) then\nprint 1\nelse\nprint 2\nend if", nil, 1, "[] fuel 1: fuel 1 1 0 []")
	ends(t, "if (1 > 2) then\nprint 1\nelse\nprint 2\nend if", nil, 1, "[] fuel 3: fuel 3 1 0 []")
	ends(t, "print 1 / 0", nil, 1, "[] line 0: div 0: zero 0 1 0 []") // a trap in the last step is no want of fuel
}

// Of a turn that there is no fuel for the index is not set; its Line is the do's.
func TestFuelOfTurns(t *testing.T) {
	s := "integer i, j\n\ndo i = 5, 6\n  do j = 7, 8\n    print i * 10 + j\n  end do\nend do\nprint 0"
	for fuel, want := range []string{
		"[] fuel 2: fuel 2 0 0 [0 0]", "[] fuel 2: fuel 2 1 0 [5 0]", "[] fuel 3: fuel 3 2 0 [5 0]", "[] fuel 3: fuel 3 3 0 [5 7]",
		"[] fuel 4: fuel 4 4 0 [5 7]", "[57] fuel 3: fuel 3 5 0 [5 7]", "[57] fuel 4: fuel 4 6 0 [5 8]", "[57 58] fuel 2: fuel 2 7 0 [5 8]",
		"[57 58] fuel 3: fuel 3 8 0 [6 8]", "[57 58] fuel 3: fuel 3 9 0 [6 7]", "[57 58] fuel 4: fuel 4 10 0 [6 7]", "[57 58 67] fuel 3: fuel 3 11 0 [6 7]",
		"[57 58 67] fuel 4: fuel 4 12 0 [6 8]", "[57 58 67 68] fuel 7: fuel 7 13 0 [6 8]", "[57 58 67 68 0] <nil> -1 14 0 [6 8]", "[57 58 67 68 0] <nil> -1 14 0 [6 8]",
	} {
		ends(t, s, nil, fuel, want)
	}
	ends(t, "integer i\ndo i = 1, 9223372036854775807\nend do", nil, 1001, "[] fuel 1: fuel 1 1001 0 [1000]")
	ends(t, "integer i\ndo i = -9223372036854775807 - 1, 9223372036854775807\nend do", nil, 3, "[] fuel 1: fuel 1 3 0 [-9223372036854775807]")
	ends(t, "integer i\ndo i = 1, 3, -1\nend do", nil, 1, "[] <nil> -1 1 0 [1]")
}

// With less fuel than it needs a run does the same up to there.
func TestLessFuel(t *testing.T) {
	s := "integer i, x, a(3)\ndo i = 1, 3\n  read x\n  if (x > i) then\n    a(i) = x\n    print a(i) * 2\n  else\n    a(x) = -i\n  end if\nend do\nprint a(1) - a(4)\n"
	in := []int64{3, 1, 7}
	whole := trapped(t, s, in, 10, "subscript", 0, api.ErrBound)
	if whole.Steps != 16 || fmt.Sprint(whole.Out) != "[6 14]" || fmt.Sprint(whole.Store) != "[3 7 -2 0 7]" {
		t.Errorf("P1001: %s", told(whole))
	}
	for fuel := range whole.Steps {
		r := ran(t, s, in, fuel)
		if !errors.Is(r.Err, api.ErrFuel) || r.Steps != fuel || len(r.Out) > len(whole.Out) || !slices.Equal(r.Out, whole.Out[:len(r.Out)]) {
			t.Errorf("P1001: fuel %d: %s", fuel, told(r))
		}
	}
	for fuel := range 5 {
		if r := ran(t, s, in, whole.Steps+fuel); told(r) != told(whole) {
			t.Errorf("P1001: fuel %d: %s; want %s", whole.Steps+fuel, told(r), told(whole))
		}
	}
}

// E comes ahead of To's place; both are worked out with the cells as they were.
func TestSet(t *testing.T) {
	prints(t, "integer x, a(3)\nx = 2\na(x) = x\nx = a(x) + 1\na(x) = a(x - 1) * 5\nprint a(1)\nprint a(2)\nprint a(3)", nil, 0, 2, 10)
	prints(t, "integer a(2, 3), i, j\ndo i = 1, 2\ndo j = 1, 3\na(i, j) = 10 * i + j\nend do\nend do\nprint a(2, 1)\nprint a(1, 3)", nil, 21, 13)
	prints(t, "integer a(2)\na(1) = 2\na(a(1)) = 7\na(1) = a(a(1)) + a(1)\nprint a(1)\nprint a(2)", nil, 9, 7)
	prints(t, "integer a(2)\na(a(1) + 1) = a(1) + 2\nprint a(1)", nil, 2)
	trapped(t, "integer a(2)\na(3) = 1 / 0", nil, 1, "div", 0, api.ErrZero)
	trapped(t, "integer a(2)\na(1 / 0) = a(3)", nil, 1, "subscript", 0, api.ErrBound)
	trapped(t, "integer a(2), b(2, 2)\na(3) = b(1, 3)", nil, 1, "subscript", 1, api.ErrBound)
	trapped(t, "integer a(2), b(2, 2)\nb(1, 3) = a(2)", nil, 1, "subscript", 1, api.ErrBound)
	trapped(t, "integer a(2)\n\na(1 / 0) = 5", nil, 2, "div", 0, api.ErrZero)
	for last, want := range map[string]string{"a(2) = 5": "subscript 0: bound", "a(0) = 5": "subscript 0: bound", "x = x / 0": "div 0: zero", "x = a(2)": "subscript 0: bound"} {
		ends(t, "integer x, a(1)\nx = 4\n"+last, nil, 9, "[] line 2: "+want+" 2 2 0 [4 0]") // the cells stay
	}
}

func TestDo(t *testing.T) {
	loop := func(head string, want ...int64) {
		t.Helper()
		s := "integer i, x, least\nx = 3\nleast = -9223372036854775807 - 1\ndo i = " + head + "\nprint i\nend do"
		prints(t, s, nil, want...)
		prints(t, s+"\nprint i", nil, append(want, want[len(want)-1])...)
	}
	loop("1, 3", 1, 2, 3)
	loop("3, 3", 3)
	loop("-2, x, 2", -2, 0, 2)
	loop("1, 6, 5", 1, 6)
	loop("1, 5, 5", 1)
	loop("3, 1, -1", 3, 2, 1)
	loop("x * x, x, -4", 9, 5)
	loop("x, x, -4", 3)
	loop("i + 1, x - i", 1, 2, 3)
	loop("9223372036854775806, 9223372036854775807", math.MaxInt64-1, math.MaxInt64)
	loop("9223372036854775806, 9223372036854775807, 2", math.MaxInt64-1)
	loop("-9223372036854775807, least, -1", -math.MaxInt64, math.MinInt64)
	loop("least, 9223372036854775807, 9223372036854775807", math.MinInt64, -1, math.MaxInt64-1)
	loop("9223372036854775807, least, -9223372036854775807", math.MaxInt64, 0, -math.MaxInt64)
	for head, want := range map[string]int64{"4, 3": 4, "3, 4, -1": 3, "x, x - 1": 3, "-7, least": -7, "9223372036854775807, least": math.MaxInt64} {
		prints(t, "integer i, x, least\ni = 99\nx = 3\nleast = -9223372036854775807 - 1\ndo i = "+head+"\nprint 5\nend do\nprint i", nil, want)
	}
}

// Lo, Hi are worked out once, ahead of the index; what the Body sets changes no turn.
func TestHeadOnce(t *testing.T) {
	prints(t, "integer i\ni = 4\ndo i = 1, i\nend do\nprint i", nil, 4)
	prints(t, "integer i\ni = 4\ndo i = i, i + 1\nprint i\nend do", nil, 4, 5)
	prints(t, "integer i, n\nn = 2\ndo i = 1, n\nn = n + 5\nend do\nprint i\nprint n", nil, 2, 12)
	prints(t, "integer i, n\nn = 1\ndo i = n, 3\nn = 9\nprint i\nend do", nil, 1, 2, 3)
	prints(t, "integer i, j\ndo i = 1, 3\ndo j = i, 2\nprint 10 * i + j\nend do\nend do\nprint i\nprint j", nil, 11, 12, 22, 3, 3)
	prints(t, "integer i\ndo i = 1, 2\nprint i\nend do\ndo i = 5, 4, -1\nprint i\nend do\ndo i = i, 2\nend do\nprint i", nil, 1, 2, 5, 4, 4)
	trapped(t, "integer i, a(2)\ndo i = 1 / 0, a(3)\nend do", nil, 1, "div", 0, api.ErrZero)
	trapped(t, "integer i, a(2)\ndo i = a(3), 1 / 0\nend do", nil, 1, "subscript", 0, api.ErrBound)
	for head, want := range map[string]string{"7, 1 / i": "[] line 1: div 0: zero 1 1 0 [0]", "1 / i, 7": "[] line 1: div 0: zero 1 1 0 [0]", "7, 8 / 0, -1": "[] line 1: div 0: zero 1 1 0 [0]"} {
		ends(t, "integer i\ndo i = "+head+"\nend do", nil, 9, want)
	}
	ends(t, "integer i, a(2)\ndo i = 1, 3\n  a(i) = 5\nend do\nprint 1", nil, 99, "[] line 2: subscript 0: bound 2 7 0 [3 5 5]")
	ends(t, "integer i, j\ndo i = 1, 9\n  do j = 1, i / (3 - i)\n  end do\nend do", nil, 99, "[] line 2: div 0: zero 2 9 0 [3 2]")
}

func TestIf(t *testing.T) {
	for op, want := range map[string][]int64{"<": {1, 0, 0}, "<=": {1, 1, 0}, ">": {0, 0, 1}, ">=": {0, 1, 1}, "==": {0, 1, 0}, "/=": {1, 0, 1}} {
		prints(t, "integer i\ndo i = 1, 3\nif (i "+op+" 2) then\nprint 1\nelse\nprint 0\nend if\nend do", nil, want...)
	}
	prints(t, "integer x\nif (x == 1) then\nprint 1\nend if\nif (x == 0) then\nend if\nprint 2", nil, 2)
	prints(t, "integer x\nif (x == 1) then\nprint 1\nelse\nend if\nif (x == 0) then\nelse\nprint 3\nend if\nprint 2", nil, 2)
	prints(t, "integer x\nif (x < 1) then\nx = 5\nprint x\nif (x < 1) then\nprint 1\nelse\nprint 2\nend if\nprint 3\nelse\nprint 4\nend if\nprint 6", nil, 5, 2, 3, 6)
	trapped(t, "integer a(1)\nif (1 / 0 < a(2)) then\nprint 1\nend if", nil, 1, "div", 0, api.ErrZero)
	trapped(t, "integer a(1)\nif (a(2) < 1 / 0) then\nprint 1\nend if", nil, 1, "subscript", 0, api.ErrBound)
	r := trapped(t, "print 7\nif (1 < 2) then\nprint 8\n\nprint 1 / 0\nelse\nprint 2\nend if\nprint 3", nil, 4, "div", 0, api.ErrZero)
	if fmt.Sprint(r.Out) != "[7 8]" || r.Steps != 4 {
		t.Errorf("P1001: %s", told(r))
	}
	ends(t, "integer x\nif (x > 0) then\nprint 1 / 0\nelse\nx = 2\nprint x / x\nend if", nil, 3, "[1] <nil> -1 3 0 [2]")
}

// To's place comes ahead of the number: one without a place is not taken.
func TestRead(t *testing.T) {
	ends(t, "integer x, a(2)\nread x\nread a(x)\nread a(a(2) - 8)", []int64{2, 9, 5, 6}, 9, "[] <nil> -1 3 3 [2 5 9]")
	ends(t, "integer a(2)\nread a(a(1) + 1)\nprint a(1)", []int64{2}, 9, "[2] <nil> -1 2 1 [2 0]")
	ends(t, "integer x\nread x\nread x\nprint x", []int64{math.MinInt64, math.MaxInt64}, 9, "[9223372036854775807] <nil> -1 3 2 [9223372036854775807]")
	ends(t, "integer i, x\ndo i = 1, 9\n  read x\nend do", []int64{7, 8, 9}, 99, "[] line 2: read 3: input 2 9 3 [4 9]")
	ends(t, "integer x\nx = 3\nread x", nil, 9, "[] line 2: read 0: input 2 2 0 [3]")
	ends(t, "integer x\nprint x", []int64{1, 2}, 9, "[0] <nil> -1 1 0 [0]")
	trapped(t, "integer x\nread x", nil, 1, "read", 0, api.ErrInput)
	trapped(t, "integer x\nread x\n\nread x", []int64{1}, 3, "read", 1, api.ErrInput)
	if r := trapped(t, "integer a(2)\nread a(3)", []int64{1}, 1, "subscript", 0, api.ErrBound); r.Read != 0 {
		t.Errorf("P1001: %d read", r.Read)
	}
	trapped(t, "integer a(2)\nread a(3)", nil, 1, "subscript", 0, api.ErrBound)
	trapped(t, "integer a(2)\nread a(1 / 0)", nil, 1, "div", 0, api.ErrZero)
}

// Text answers the errors of what reads and what holds names, as they are, and nothing beside them.
func TestTextErrors(t *testing.T) {
	for _, s := range []string{"x =", "\x00", "do i = 1, 2", "end do", "print 1\ninteger x", "print 1 +", strings.Repeat("\n", api.MaxText+1), strings.Repeat(" ", api.MaxLine+1), "x = 1\nprint", "print 1 / 0\n?"} {
		_, _, want := tree.Parse(s)
		r, err := run.Text(s, []int64{1}, 9)
		if want == nil || !reflect.DeepEqual(err, want) || !reflect.DeepEqual(r, run.Result{}) {
			t.Errorf("P1001: Text(%.80q): %s, %v; want %v", s, told(r), err, want)
		}
	}
	for _, s := range []string{"x = 1", "integer x, x", "integer x\nprint 1\nx(1) = 2", "integer i\ndo i = 1, 2\ni = 1\nend do", "integer i\ndo i = 1, 2, 0\nend do", "integer a(4097)", "print 1 / 0\nprint y"} {
		l, _, err := tree.Parse(s)
		if err != nil {
			t.Fatalf("P701: %v", err)
		}
		_, want := sema.Check(l)
		r, err := run.Text(s, []int64{1}, 9)
		if want == nil || !reflect.DeepEqual(err, want) || !reflect.DeepEqual(r, run.Result{}) {
			t.Errorf("P1001: Text(%q): %s, %v; want %v", s, told(r), err, want)
		}
	}
	if r, err := run.Text("print 1 / 0", nil, 9); err != nil || !errors.Is(r.Err, api.ErrZero) {
		t.Errorf("P1001: a trap is no error of Text: %s, %v", told(r), err)
	}
}
