package edit_test

import (
	"errors"
	"math"
	"slices"
	"strings"
	"testing"

	"furrow/api"
	"furrow/edit"
)

func in(from, to int, l ...string) edit.Edit { return edit.Edit{From: from, To: to, New: l} }

// same holds no list and an empty one for the same (P2).
func same(a, b []edit.Edit) bool {
	return slices.EqualFunc(a, b, func(x, y edit.Edit) bool {
		return x.From == y.From && x.To == y.To && slices.Equal(x.New, y.New)
	})
}

// told tells whether err is just this Fault; api.OK asks for none.
func told(t *testing.T, call string, err error, at int, inner api.Errno) {
	t.Helper()
	if inner == api.OK {
		if err != nil {
			t.Errorf("P301: %s: %v; want no error", call, err)
		}
		return
	}
	var f *api.Fault
	if !errors.As(err, &f) {
		t.Errorf("P301: %s: %v; want a Fault", call, err)
		return
	}
	if f.Part != "edit" || f.At != at || f.Err != inner || !errors.Is(err, inner) {
		t.Errorf("P301: %s: %v; want edit %d: %v", call, err, at, inner)
	}
}

// judged asks Check, Apply and Back for one and the same Fault, with nothing beside it (P4).
func judged(t *testing.T, n int, l []edit.Edit, at int, inner api.Errno) {
	t.Helper()
	told(t, "Check", edit.Check(n, l), at, inner)
	if n < 0 {
		return
	}
	lines := make([]string, n)
	made, err := edit.Apply(lines, l)
	told(t, "Apply", err, at, inner)
	if err != nil && len(made) != 0 {
		t.Errorf("P4: Apply: %q beside an error", made)
	}
	back, err := edit.Back(lines, l)
	told(t, "Back", err, at, inner)
	if err != nil && len(back) != 0 {
		t.Errorf("P4: Back: %v beside an error", back)
	}
}

func TestCheckTaken(t *testing.T) {
	for _, c := range []struct {
		n int
		l []edit.Edit
	}{
		{0, nil},
		{0, []edit.Edit{}},
		{0, []edit.Edit{in(0, 0)}},
		{0, []edit.Edit{in(0, 0, "a")}},
		{7, nil},
		{1, []edit.Edit{in(0, 0), in(1, 1)}},
		{3, []edit.Edit{in(0, 3)}},
		{3, []edit.Edit{in(3, 3)}},
		{3, []edit.Edit{in(0, 1), in(2, 3)}},
		{3, []edit.Edit{in(0, 2, "a"), in(3, 3, "b")}},
		{9, []edit.Edit{in(0, 0), in(1, 3), in(4, 4), in(8, 9)}},
	} {
		judged(t, c.n, c.l, 0, api.OK)
	}
	told(t, "Check", edit.Check(math.MaxInt, []edit.Edit{in(0, 1), in(2, math.MaxInt-1), in(math.MaxInt, math.MaxInt)}), 0, api.OK)
}

func TestCheckArg(t *testing.T) {
	for _, n := range []int{-1, math.MinInt} {
		judged(t, n, nil, 0, api.ErrArg)
		judged(t, n, []edit.Edit{in(0, 0), in(0, 0)}, 0, api.ErrArg)
	}
	for _, e := range []edit.Edit{
		in(-1, 0), in(-1, -1), in(math.MinInt, 0), in(math.MinInt, math.MaxInt),
		in(2, 1), in(3, 2), in(0, -1), in(1, math.MinInt), in(math.MaxInt, math.MinInt),
		in(0, 4), in(3, 4), in(4, 4), in(4, 3), in(0, math.MaxInt), in(math.MaxInt, math.MaxInt),
	} {
		judged(t, 3, []edit.Edit{e}, 0, api.ErrArg)
		judged(t, 3, []edit.Edit{in(0, 0, "a"), e}, 1, api.ErrArg)
	}
	judged(t, 0, []edit.Edit{in(0, 1)}, 0, api.ErrArg)
	judged(t, 0, []edit.Edit{in(1, 1)}, 0, api.ErrArg)
}

func TestCheckTwice(t *testing.T) {
	for _, c := range [][2]edit.Edit{
		{in(0, 0), in(0, 0)},
		{in(0, 1), in(1, 1)},
		{in(0, 1), in(1, 2)},
		{in(0, 3), in(1, 2)},
		{in(2, 4), in(3, 5)},
		{in(5, 6), in(1, 2)},
		{in(3, 3), in(2, 2)},
		{in(9, 9), in(9, 9)},
	} {
		judged(t, 9, c[:], 1, api.ErrTwice)
	}
	judged(t, 9, []edit.Edit{in(0, 0), in(2, 3), in(3, 3)}, 2, api.ErrTwice)
}

// P6: n, then edit by edit, in each its places ahead of the one ahead of it.
func TestCheckFirstError(t *testing.T) {
	judged(t, -1, []edit.Edit{in(0, 0), in(5, 4)}, 0, api.ErrArg)
	judged(t, 9, []edit.Edit{in(5, 6), in(5, 10)}, 1, api.ErrArg)
	judged(t, 9, []edit.Edit{in(5, 6), in(-1, 2)}, 1, api.ErrArg)
	judged(t, 9, []edit.Edit{in(5, 6), in(4, 3)}, 1, api.ErrArg)
	judged(t, 9, []edit.Edit{in(0, 4), in(3, 5), in(9, 8)}, 1, api.ErrTwice)
	judged(t, 9, []edit.Edit{in(0, 4), in(9, 8), in(3, 5)}, 1, api.ErrArg)
	judged(t, 9, []edit.Edit{in(0, 10), in(0, 0)}, 0, api.ErrArg)
}

func TestApplyAndBack(t *testing.T) {
	for _, c := range []struct {
		lines string
		l     []edit.Edit
		want  string
		back  []edit.Edit
	}{
		{"", nil, "", nil},
		{"", []edit.Edit{in(0, 0)}, "", []edit.Edit{in(0, 0)}},
		{"", []edit.Edit{in(0, 0, "x", "y")}, "x y", []edit.Edit{in(0, 2)}},
		{"a b c", nil, "a b c", nil},
		{"a b c", []edit.Edit{in(1, 1)}, "a b c", []edit.Edit{in(1, 1)}},
		{"a b c", []edit.Edit{in(0, 3)}, "", []edit.Edit{in(0, 0, "a", "b", "c")}},
		{"a b c", []edit.Edit{in(0, 0, "x")}, "x a b c", []edit.Edit{in(0, 1)}},
		{"a b c", []edit.Edit{in(3, 3, "x")}, "a b c x", []edit.Edit{in(3, 4)}},
		{"a b c", []edit.Edit{in(1, 2, "x", "y")}, "a x y c", []edit.Edit{in(1, 3, "b")}},
		{"a b c", []edit.Edit{in(1, 2, "b")}, "a b c", []edit.Edit{in(1, 2, "b")}},
		{"a b c", []edit.Edit{in(0, 0, "x"), in(1, 1, "y"), in(2, 2, "z"), in(3, 3)}, "x a y b z c",
			[]edit.Edit{in(0, 1), in(2, 3), in(4, 5), in(6, 6)}},
		{"a b c d e f", []edit.Edit{in(0, 2), in(3, 4, "x", "y", "z"), in(6, 6, "w")}, "c x y z e f w",
			[]edit.Edit{in(0, 0, "a", "b"), in(1, 4, "d"), in(6, 7)}},
	} {
		lines := strings.Fields(c.lines)
		made, err := edit.Apply(lines, c.l)
		if err != nil || strings.Join(made, " ") != c.want {
			t.Errorf("P301: Apply(%q, %v): %q, %v; want %s", lines, c.l, made, err, c.want)
		}
		back, err := edit.Back(lines, c.l)
		if err != nil || !same(back, c.back) {
			t.Errorf("P301: Back(%q, %v): %v, %v; want %v", lines, c.l, back, err, c.back)
		}
	}
}

// Lines are bytes here: what a text may not hold is put in and taken out like anything else.
func TestAnyBytes(t *testing.T) {
	made, err := edit.Apply([]string{"", "\x00\n", "\xff"}, []edit.Edit{in(1, 2, "", "a\nb", "\r\n")})
	if want := []string{"", "", "a\nb", "\r\n", "\xff"}; err != nil || !slices.Equal(made, want) {
		t.Errorf("P301: %q, %v; want %q", made, err, want)
	}
}

// lists goes over every list of at most two edits over n lines, with places from one below to one above what may be.
func lists(n int, yield func([]edit.Edit)) {
	yield(nil)
	var all []edit.Edit
	for from := -1; from <= n+1; from++ {
		for to := -1; to <= n+1; to++ {
			all = append(all, in(from, to), in(from, to, "x"), in(from, to, "y", "z"))
		}
	}
	for _, a := range all {
		yield([]edit.Edit{a})
		for _, b := range all {
			yield([]edit.Edit{a, b})
		}
	}
}

// expected tells what Check must answer, from the last edit to the first: the one that is first stands last.
func expected(n int, l []edit.Edit) (at int, inner api.Errno) {
	for i, e := range slices.Backward(l) {
		if i > 0 && e.From-l[i-1].To < 1 {
			at, inner = i, api.ErrTwice
		}
		if !(0 <= e.From && e.From <= e.To && e.To <= n) {
			at, inner = i, api.ErrArg
		}
	}
	return at, inner
}

// TestEveryList holds Apply against edits done one by one, the last one first, so that none moves another one.
func TestEveryList(t *testing.T) {
	lines := []string{"a", "b", "c", "d"}
	for n := range len(lines) + 1 {
		lists(n, func(l []edit.Edit) {
			at, inner := expected(n, l)
			judged(t, n, l, at, inner)
			if inner != api.OK {
				return
			}
			want := slices.Clone(lines[:n])
			for _, e := range slices.Backward(l) {
				want = slices.Replace(want, e.From, e.To, e.New...)
			}
			made, _ := edit.Apply(lines[:n], l)
			if !slices.Equal(made, want) {
				t.Errorf("P301: Apply(%q, %v): %q; want %q", lines[:n], l, made, want)
			}
			leadsBack(t, lines[:n], l, made)
		})
	}
}

// leadsBack also goes back from where Back led to: that must be what was done at first.
func leadsBack(t *testing.T, lines []string, l []edit.Edit, made []string) {
	t.Helper()
	back, err := edit.Back(lines, l)
	if err != nil || len(back) != len(l) {
		t.Errorf("P301: Back(%q, %v): %v, %v; want %d edits", lines, l, back, err, len(l))
	}
	again, err := edit.Apply(made, back)
	if err != nil || !slices.Equal(again, lines) {
		t.Errorf("P301: Back(%q, %v): %v leads to %q, %v", lines, l, back, again, err)
	}
	forth, err := edit.Back(made, back)
	if err != nil || !same(forth, l) {
		t.Errorf("P301: Back(%q, %v): %v, %v; want %v", made, back, forth, err, l)
	}
}

func TestDiff(t *testing.T) {
	for _, c := range []struct {
		a, b string
		want []edit.Edit
	}{
		{"", "", nil},
		{"a", "a", nil},
		{"a b a", "a b a", nil},
		{"", "a b", []edit.Edit{in(0, 0, "a", "b")}},
		{"a b", "", []edit.Edit{in(0, 2)}},
		{"a b c", "a x c", []edit.Edit{in(1, 2, "x")}},
		{"a b c", "x b c", []edit.Edit{in(0, 1, "x")}},
		{"a b c", "a b x", []edit.Edit{in(2, 3, "x")}},
		{"a b c d", "a x c y", []edit.Edit{in(1, 4, "x", "c", "y")}},
		{"a c", "a b c", []edit.Edit{in(1, 1, "b")}},
		{"a b c", "a c", []edit.Edit{in(1, 2)}},
		{"a a", "a a a", []edit.Edit{in(2, 2, "a")}},
		{"a a a", "a a", []edit.Edit{in(2, 3)}},
		{"a b a b", "a b", []edit.Edit{in(2, 4)}},
		{"a b", "a b a b", []edit.Edit{in(2, 2, "a", "b")}},
		{"b a", "a b a", []edit.Edit{in(0, 0, "a")}},
		{"x y", "y x", []edit.Edit{in(0, 2, "y", "x")}},
		{"a b", "A b", []edit.Edit{in(0, 1, "A")}},
	} {
		if got := edit.Diff(strings.Fields(c.a), strings.Fields(c.b)); !same(got, c.want) {
			t.Errorf("P301: Diff(%s, %s): %v; want %v", c.a, c.b, got, c.want)
		}
	}
	if got := edit.Diff([]string{"a\n"}, []string{"a"}); !same(got, []edit.Edit{in(0, 1, "a")}) {
		t.Errorf("P301: an end is part of its line: %v", got)
	}
	if got := edit.Diff(nil, []string{}); len(got) != 0 {
		t.Errorf("P2: Diff(nil, []): %v", got)
	}
	if got := edit.Diff(nil, []string{""}); !same(got, []edit.Edit{in(0, 0, "")}) {
		t.Errorf("P301: an empty line is a line: %v", got)
	}
}

// words are all lists of at most four lines, each a or b.
func words() [][]string {
	all := [][]string{nil}
	for i := 0; i < len(all); i++ {
		if len(all[i]) < 4 {
			all = append(all, append(slices.Clone(all[i]), "a"), append(slices.Clone(all[i]), "b"))
		}
	}
	return all
}

// TestDiffEveryPair: the edit leads from a to b; neither its beginning nor, behind that, its end could be shared further.
func TestDiffEveryPair(t *testing.T) {
	for _, a := range words() {
		for _, b := range words() {
			l := edit.Diff(a, b)
			made, err := edit.Apply(a, l)
			if err != nil || !slices.Equal(made, b) {
				t.Errorf("P301: Diff(%q, %q): %v leads to %q, %v", a, b, l, made, err)
			}
			if slices.Equal(a, b) {
				if len(l) != 0 {
					t.Errorf("P301: Diff(%q, %q): %v; want none", a, b, l)
				}
				continue
			}
			if len(l) != 1 {
				t.Errorf("P301: Diff(%q, %q): %v; want one", a, b, l)
				continue
			}
			old, fresh := a[l[0].From:l[0].To], l[0].New
			if len(old) == 0 || len(fresh) == 0 {
				rest, other := a[l[0].From:], b[l[0].From:]
				if len(rest) > 0 && len(other) > 0 && rest[0] == other[0] {
					t.Errorf("P301: Diff(%q, %q): %v: both begin alike further", a, b, l)
				}
				continue
			}
			if old[0] == fresh[0] || old[len(old)-1] == fresh[len(fresh)-1] {
				t.Errorf("P301: Diff(%q, %q): %v: more is alike", a, b, l)
			}
		}
	}
}

// P2: what is handed in stays, its spare room too.
func TestArgumentsStay(t *testing.T) {
	room := []string{"a", "b", "c", "spare", "spare"}
	fresh := []string{"x", "spare", "spare"}
	edits := []edit.Edit{{From: 0, To: 0, New: fresh[:1]}, in(2, 3), in(-7, -7, "spare")}
	_ = edit.Check(3, edits[:2])
	_, _ = edit.Apply(room[:3], edits[:2])
	_, _ = edit.Back(room[:3], edits[:2])
	_ = edit.Diff(room[:3], fresh[:1])
	_ = edit.Diff(fresh[:1], room[:3])
	if strings.Join(room, " ") != "a b c spare spare" || strings.Join(fresh, " ") != "x spare spare" {
		t.Errorf("P2: changed: %q, %q", room, fresh)
	}
	if !same(edits, []edit.Edit{in(0, 0, "x"), in(2, 3), in(-7, -7, "spare")}) {
		t.Errorf("P2: changed: %v", edits)
	}
}

// spoil writes over a list and over its spare room.
func spoil(l []string) {
	l = l[:cap(l)]
	for i := range l {
		l[i] = "spoiled"
	}
}

// P2: an answer shares memory neither with what was handed in nor within itself, its spare room too.
func TestAnswersAreNew(t *testing.T) {
	room := []string{"a", "b", "c", "d", "spare", "spare"}
	fresh := []string{"x", "spare"}
	edits := []edit.Edit{{From: 0, To: 2, New: fresh[:1]}, {From: 3, To: 4}}
	for _, l := range [][]edit.Edit{nil, edits} {
		made, _ := edit.Apply(room[:4], l)
		spoil(made)
	}
	back, _ := edit.Back(room[:4], edits)
	spoil(back[0].New)
	if !slices.Equal(back[1].New, []string{"d"}) {
		t.Errorf("P2: two lists of one answer share memory: %v", back)
	}
	spoil(back[1].New)
	for i := range back[:cap(back)] {
		back[:cap(back)][i] = edit.Edit{From: -1}
	}
	for _, c := range [][2][]string{{nil, room[:4]}, {room[:2], room[:4]}, {room[:4], fresh[:1]}} {
		for _, e := range edit.Diff(c[0], c[1]) {
			spoil(e.New)
		}
	}
	if strings.Join(room, " ") != "a b c d spare spare" || strings.Join(fresh, " ") != "x spare" {
		t.Errorf("P2: an answer shares memory with an argument: %q, %q", room, fresh)
	}
	if !same(edits, []edit.Edit{in(0, 2, "x"), in(3, 4)}) {
		t.Errorf("P2: an answer shares memory with an argument: %v", edits)
	}
}

// P3 and P5: a list that was refused leaves nothing behind, and two Faults are two.
func TestNothingIsKept(t *testing.T) {
	bad := []edit.Edit{in(0, 1), in(1, 2)}
	for range 3 {
		judged(t, 4, bad, 1, api.ErrTwice)
		var f *api.Fault
		if errors.As(edit.Check(4, bad), &f) {
			f.Part, f.At, f.Err = "spoiled", -1, nil
		}
		made, err := edit.Apply([]string{"a", "b"}, []edit.Edit{in(0, 1, "x")})
		if err != nil || !slices.Equal(made, []string{"x", "b"}) {
			t.Errorf("P3: %q, %v", made, err)
		}
	}
}

// Texts of the greatest length are done too, each line with an edit of its own that may have one.
func TestManyLines(t *testing.T) {
	lines := slices.Repeat([]string{"\n"}, api.MaxText)
	var l []edit.Edit
	for i := 0; i < len(lines); i += 2 {
		l = append(l, in(i, i+1, "x\n", "y\n"))
	}
	made, err := edit.Apply(lines, l)
	if err != nil || len(made) != len(lines)+len(l) || strings.Join(made[:6], "") != "x\ny\n\nx\ny\n\n" {
		t.Errorf("P301: %d lines, %v", len(made), err)
	}
	leadsBack(t, lines, l, made)
}
