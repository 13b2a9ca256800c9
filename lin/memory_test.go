package lin_test

import (
	"fmt"
	"math"
	"slices"
	"testing"

	"furrow/lin"
)

// spare is a list with room behind its end, in which 77 stands.
func spare(l ...int64) []int64 { return append(l, 77)[:len(l)] }

// kept tells whether a list holds what it was made of, and 77 behind its end.
func kept(l []int64, want ...int64) bool {
	return slices.Equal(l[:len(l)+1], append(want, 77))
}

// P2: what is handed in stays as it was, its spare room too.
func TestMemoryHandedIn(t *testing.T) {
	a, b := lin.Form{C: spare(2, -3), K: 1}, lin.Form{C: spare(5, 6), K: 4}
	x, y := spare(7, 8), spare(9, 10)
	names := []string{"i", "", "spare"}
	lin.Add(a, b)
	lin.Add(a, a)
	lin.Add(lin.Form{C: a.C, K: most}, a)
	lin.Scale(a, 5)
	lin.Scale(a, most)
	lin.At(a, x)
	lin.At(a, x[:1])
	lin.Same(a, b)
	lin.Same(a, lin.Form{C: a.C[:1], K: 1})
	lin.Text(a, names[:2])
	lin.Text(a, names[:1])
	lin.Range(a, x, y)
	lin.Range(a, y, x)
	if !kept(a.C, 2, -3) || a.K != 1 || !kept(b.C, 5, 6) || b.K != 4 {
		t.Errorf("P2: the Forms are changed: %v, %v", a, b)
	}
	if !kept(x, 7, 8) || !kept(y, 9, 10) || fmt.Sprint(names) != "[i  spare]" {
		t.Errorf("P2: what is handed in is changed: %v, %v, %q", x, y, names)
	}
}

// A list that is handed in twice, or a piece of another one, counts as two lists.
func TestListsThatShare(t *testing.T) {
	l := list(2, -3, 5)
	a, b := lin.Form{C: l[:2], K: 1}, lin.Form{C: l[1:], K: 1}
	f, err := lin.Add(a, b)
	is(t, "Add of what shares", "{[-1 2] 2} <nil>", f, err)
	v, err := lin.At(a, l[1:])
	is(t, "At of what shares", "-20 <nil>", v, err)
	n, m, err := lin.Range(a, l[:2], l[:2])
	is(t, "Range of what shares", "14 14 <nil>", n, m, err)
}

// made calls f with each call that answers a Form, over Forms that it makes anew.
func made(a, b lin.Form, f func(call string, get func() lin.Form)) {
	f("Const", func() lin.Form { return lin.Const(2, 3) })
	f("Index", func() lin.Form { return lin.Index(2, 1) })
	f("Index of none", func() lin.Form { return lin.Index(2, 2) })
	f("Add", func() lin.Form { s, _ := lin.Add(a, b); return s })
	f("Add of nothing", func() lin.Form { s, _ := lin.Add(a, lin.Const(2, 0)); return s })
	f("Add to nothing", func() lin.Form { s, _ := lin.Add(lin.Const(2, 0), a); return s })
	f("Scale", func() lin.Form { s, _ := lin.Scale(a, 2); return s })
	f("Scale by 1", func() lin.Form { s, _ := lin.Scale(a, 1); return s })
	f("Scale by 0", func() lin.Form { s, _ := lin.Scale(a, 0); return s })
}

// P2: an answer is new memory, its spare room too: neither what was handed in nor another answer changes with it, nor it with them.
func TestAnswersShareNothing(t *testing.T) {
	a, b := lin.Form{C: spare(2, -3), K: 1}, lin.Form{C: spare(5, 6), K: 4}
	made(a, b, func(call string, get func() lin.Form) {
		one, two := get(), get()
		want := told(two)
		room := one.C[:cap(one.C)]
		for i := range room {
			room[i] = 99
		}
		if told(two) != want || told(get()) != want {
			t.Errorf("P2: two answers of %s share memory", call)
		}
		if !kept(a.C, 2, -3) || !kept(b.C, 5, 6) {
			t.Fatalf("P2: %s shares memory with what was handed in", call)
		}
		c := lin.Form{C: list(2, -3), K: 1}
		made(c, c, func(other string, get func() lin.Form) {
			if other != call {
				return
			}
			f := get()
			want := told(f)
			c.C[0], c.C[1] = 98, 98
			if told(f) != want {
				t.Errorf("P2: %s keeps what was handed in", call)
			}
			c.C[0], c.C[1] = 2, -3
		})
	})
}

// P3 and P5: what is answered hangs on what is handed in alone.
func TestNothingIsKept(t *testing.T) {
	for range 3 {
		f, err := lin.Add(form(1, most), form(2, 1))
		is(t, "Add", "{[] 0} form 0: over", f, err)
		f, err = lin.Add(form(1, most), form(2, 0))
		is(t, "Add", "{[9223372036854775807] 3} <nil>", f, err)
		v, err := lin.At(form(1, 2), list(most))
		is(t, "At", "0 form 0: over", v, err)
		v, err = lin.At(form(1, 2), list(3))
		is(t, "At", "7 <nil>", v, err)
		n, m, err := lin.Range(form(1, 2), list(3), list(most))
		is(t, "Range", "0 0 form 0: over", n, m, err)
		n, m, err = lin.Range(form(1, -2), list(3), list(4))
		is(t, "Range", "-7 -5 <nil>", n, m, err)
		is(t, "Text", "-2*i + x1", lin.Text(form(0, -2, 1), []string{"i"}))
	}
}

// P1: no list is a list of none, whatever is asked; and no number of variables panics.
func TestNothingPanics(t *testing.T) {
	var none lin.Form
	f, err := lin.Add(none, lin.Form{C: list()})
	is(t, "Add of none", "{[] 0} <nil>", f, err)
	f, err = lin.Scale(none, least)
	is(t, "Scale of none", "{[] 0} <nil>", f, err)
	v, err := lin.At(none, nil)
	is(t, "At of none", "0 <nil>", v, err)
	n, m, err := lin.Range(none, nil, list())
	is(t, "Range of none", "0 0 <nil>", n, m, err)
	is(t, "Text of none", "0", lin.Text(none, nil))
	is(t, "Same of none", "true", lin.Same(none, none))
	for _, n := range list(math.MaxInt, 1<<31, math.MinInt, -1) {
		lin.Const(int(n), 1)
		lin.Index(int(n), 0)
		lin.Index(int(n), math.MaxInt)
	}
}
