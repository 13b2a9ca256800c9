package stmt_test

import (
	"errors"
	"fmt"
	"math"
	"runtime/debug"
	"slices"
	"strconv"
	"strings"
	"testing"

	"furrow/api"
	"furrow/expr"
	"furrow/stmt"
	"furrow/tok"
)

func num(n int64) expr.Expr        { return expr.Expr{Kind: expr.Num, N: n} }
func variable(s string) expr.Expr  { return expr.Expr{Kind: expr.Var, Name: s} }
func neg(a expr.Expr) expr.Expr    { return op(expr.Neg, a) }
func add(a, b expr.Expr) expr.Expr { return op(expr.Add, a, b) }
func sub(a, b expr.Expr) expr.Expr { return op(expr.Sub, a, b) }
func mul(a, b expr.Expr) expr.Expr { return op(expr.Mul, a, b) }

func op(kind int, a ...expr.Expr) expr.Expr { return expr.Expr{Kind: kind, A: a} }

func elem(name string, a ...expr.Expr) expr.Expr {
	return expr.Expr{Kind: expr.Elem, Name: name, A: a}
}

func item(name string, dims ...int64) stmt.Item { return stmt.Item{Name: name, Dims: dims} }
func decl(l ...stmt.Item) stmt.Stmt             { return stmt.Stmt{Kind: stmt.Decl, Items: l} }
func set(to, e expr.Expr) stmt.Stmt             { return stmt.Stmt{Kind: stmt.Set, To: to, E: e} }
func read(to expr.Expr) stmt.Stmt               { return stmt.Stmt{Kind: stmt.Read, To: to} }
func printed(e expr.Expr) stmt.Stmt             { return stmt.Stmt{Kind: stmt.Print, E: e} }

func do(name string, lo, hi expr.Expr, step int64) stmt.Stmt {
	return stmt.Stmt{Kind: stmt.Do, Name: name, Lo: lo, Hi: hi, Step: step}
}

func ifThen(a expr.Expr, sign string, b expr.Expr) stmt.Stmt {
	return stmt.Stmt{Kind: stmt.If, Cond: expr.Cond{Op: sign, A: a, B: b}}
}

// sameTree asks all fields of both. No list and an empty one are the same (P2).
func sameTree(a, b expr.Expr) bool {
	return a.Kind == b.Kind && a.N == b.N && a.Name == b.Name && slices.EqualFunc(a.A, b.A, sameTree)
}

func sameItem(a, b stmt.Item) bool { return a.Name == b.Name && slices.Equal(a.Dims, b.Dims) }

// alike asks all fields, so that what a Kind does not have must be zero.
func alike(a, b stmt.Stmt) bool {
	return a.Kind == b.Kind && a.Name == b.Name && a.Step == b.Step && slices.EqualFunc(a.Items, b.Items, sameItem) &&
		sameTree(a.To, b.To) && sameTree(a.E, b.E) && sameTree(a.Lo, b.Lo) && sameTree(a.Hi, b.Hi) &&
		a.Cond.Op == b.Cond.Op && sameTree(a.Cond.A, b.Cond.A) && sameTree(a.Cond.B, b.Cond.B)
}

// taken tells whether Parse answers just this statement.
func taken(t *testing.T, s string, want stmt.Stmt) {
	t.Helper()
	if x, err := stmt.Parse(s); err != nil || !alike(x, want) {
		t.Errorf("P601: Parse(%q): %v, %v; want %v", s, x, err, want)
	}
}

// refused tells whether Parse answers just this error, by the words of all Faults in it, and nothing beside it (P4).
func refused(t *testing.T, s, want string) {
	t.Helper()
	x, err := stmt.Parse(s)
	if err == nil || err.Error() != want {
		t.Errorf("P601: Parse(%q): %v; want %s", s, err, want)
	}
	if !alike(x, stmt.Stmt{}) {
		t.Errorf("P4: Parse(%q): %v beside an error", s, x)
	}
}

func TestKindsAreTheFace(t *testing.T) {
	l := []int{stmt.Empty, stmt.Decl, stmt.Set, stmt.Do, stmt.EndDo, stmt.If, stmt.Else, stmt.EndIf, stmt.Read, stmt.Print}
	if !slices.Equal(l, []int{0, 1, 2, 3, 4, 5, 6, 7, 8, 9}) {
		t.Error("P601: the kinds' numbers")
	}
}

func TestEmpty(t *testing.T) {
	for _, s := range []string{"", " ", "\t \t", "\n", " \n", "!", "! x = 1", "  ! integer A ?\n", "!!\n", "!\xff\x00"} {
		taken(t, s, stmt.Stmt{})
	}
}

func TestDecl(t *testing.T) {
	taken(t, "integer a", decl(item("a")))
	taken(t, "integer a, b_2 ,c", decl(item("a"), item("b_2"), item("c")))
	taken(t, "integer a(1)", decl(item("a", 1)))
	taken(t, "integer a (10, 2), b, c(3,4,5,6)", decl(item("a", 10, 2), item("b"), item("c", 3, 4, 5, 6)))
	taken(t, "integer a(1,1,1,1), b(1,1,1,1)", decl(item("a", 1, 1, 1, 1), item("b", 1, 1, 1, 1)))
	taken(t, "integer a, a, a(007)", decl(item("a"), item("a"), item("a", 7)))
	taken(t, "integer a(9223372036854775807)", decl(item("a", math.MaxInt64)))
	taken(t, "integer "+strings.Repeat("z", api.MaxName), decl(item(strings.Repeat("z", api.MaxName))))
	refused(t, "integer "+strings.Repeat("z", api.MaxName+1), "stmt 0: word 8: long")
	refused(t, "integer a(9223372036854775808)", "stmt 0: word 10: over")
}

func TestDeclWrong(t *testing.T) {
	for _, w := range strings.Fields("5 ( ) , = + - * < integer do end if then else read print") {
		refused(t, "integer "+w, "stmt 1: form")
		refused(t, "integer a, "+w, "stmt 3: form")
		refused(t, "integer a(2), "+w+" b", "stmt 6: form")
		if w != "(" && w != "," {
			refused(t, "integer a "+w, "stmt 2: form")
			refused(t, "integer a, b "+w+" 2", "stmt 4: form")
		}
		if w != "5" {
			refused(t, "integer a("+w, "stmt 3: form")
			refused(t, "integer a(1, "+w+" )", "stmt 5: form")
		}
		if w != ")" && w != "," {
			refused(t, "integer a(1 "+w, "stmt 4: form")
			refused(t, "integer a(1, 2, 3, 4 "+w+" )", "stmt 10: form")
		}
		if w != "," {
			refused(t, "integer a(1) "+w, "stmt 5: form")
		}
	}
	for s, at := range map[string]int{"integer": 1, "integer a,": 3, "integer a(": 3, "integer a()": 3, "integer a(b)": 3, "integer a(-1)": 3, "integer a(1 + 1)": 4, "integer a(1": 4, "integer a(1,": 5, "integer a(1,)": 5, "integer a(1, 2, 3, 4": 10, "integer a b": 2, "integer a(1) b": 5, "integer a(1)(1)": 5, "integer (a)": 1} {
		refused(t, s, "stmt "+strconv.Itoa(at)+": form")
	}
}

func TestDeclAtItsBounds(t *testing.T) {
	refused(t, "integer a(1, 2, 3, 4, 5)", "stmt 10: long")
	refused(t, "integer a(1, 2, 3, 4,", "stmt 10: long")
	refused(t, "integer a(1, 2, 3, 4, a", "stmt 10: long")
	refused(t, "integer a, b(1), c(1, 2, 3, 4, 5)", "stmt 17: long")
	refused(t, "integer a(0)", "stmt 3: arg")
	refused(t, "integer a(00", "stmt 3: arg")
	refused(t, "integer a(1, 0)", "stmt 5: arg")
	refused(t, "integer a(1, 2, 3, 000)", "stmt 9: arg")
	refused(t, "integer a, b(1), c(2, 0, 3)", "stmt 12: arg")
}

// P6: from the left, the first word that is wrong.
func TestFirstError(t *testing.T) {
	refused(t, "integer a(0, 1, 1, 1, 1) b", "stmt 3: arg")
	refused(t, "integer a(1, 1, 1, 1, 0) b", "stmt 10: long")
	refused(t, "integer a(0 b", "stmt 3: arg")
	refused(t, "integer a(b, 0)", "stmt 3: form")
	refused(t, "integer a b(0)", "stmt 2: form")
	refused(t, "do 5 = +, +", "stmt 1: form")
	refused(t, "do i = +, +, +", "stmt 3: expr 0: form")
	refused(t, "a(1, 2, 3, 4, 5) + = +", "stmt 9: expr 9: long")
	refused(t, "a(+) + = +", "stmt 2: expr 2: form")
	refused(t, "x x = +", "stmt 1: form")
	refused(t, "x + 5y", "stmt 0: word 5: word")
	refused(t, "x x = 99999999999999999999 A", "stmt 0: word 6: over")
	refused(t, "if a < ) else", "stmt 1: form")
	refused(t, "if (a + < ) else", "stmt 4: expr 2: form")
}

func TestSet(t *testing.T) {
	x, a := variable("x"), elem("a", num(1))
	taken(t, "x = 1", set(x, num(1)))
	taken(t, " x=1 ! n\n", set(x, num(1)))
	taken(t, "\tx\t=\t-a(1)\t*2!", set(x, mul(neg(a), num(2))))
	taken(t, "a(1) = x", set(a, x))
	taken(t, "a(i, j + 1) = a(1) - (x - 2)", set(elem("a", variable("i"), add(variable("j"), num(1))), sub(a, sub(x, num(2)))))
	taken(t, "a((1)) = (a(1))", set(a, a))
	taken(t, "a(a(a(1), 2), a(1)) = x", set(elem("a", elem("a", a, num(2)), a), x))
	taken(t, "a(1, 2, 3, 4) = a(1, 2, 3, 4)", set(elem("a", num(1), num(2), num(3), num(4)), elem("a", num(1), num(2), num(3), num(4))))
	taken(t, "integers = doit", set(variable("integers"), variable("doit")))
	for s, want := range map[string]string{"x": "stmt 1: form", "x 5": "stmt 1: form", "x == 5": "stmt 1: form", "x + y = 5": "stmt 1: form", "x + = 5": "stmt 1: form", "x ) = 5": "stmt 1: form", "x )( = 5": "stmt 1: form", "x, y = 5": "stmt 1: form", "a(1)": "stmt 4: form", "a(1) + 1 = 2": "stmt 4: form", "a(1)(2) = 5": "stmt 4: form", "a(1)) = 5": "stmt 4: form", "a(b(1)) - = 5": "stmt 7: form", "x - ((((((((((((((((((((( = 5": "stmt 1: form",
		"x =": "stmt 2: expr 0: form", "x = )": "stmt 2: expr 0: form", "x = = 5": "stmt 2: expr 0: form", "x = 1 +": "stmt 4: expr 2: form", "x = (1": "stmt 4: expr 2: form", "x = 1 2": "stmt 3: form", "x = 1)": "stmt 3: form", "x = 1 = 2": "stmt 3: form", "x = 1 < 2": "stmt 3: form", "x = 1, 2": "stmt 3: form", "x = a(1) then": "stmt 6: form", "a(1) =": "stmt 5: expr 0: form", "a(1) = 2 *": "stmt 7: expr 2: form",
		"a(": "stmt 2: expr 2: form", "a() = 5": "stmt 2: expr 2: form", "a( = 5": "stmt 2: expr 2: form", "a(1 = 5": "stmt 3: expr 3: form", "a(1 = 5)": "stmt 3: expr 3: form", "a(1, = 5": "stmt 4: expr 4: form", "a(b(1) = 5": "stmt 6: expr 6: form", "a((1) = 5": "stmt 5: expr 5: form", "a(1 do) = 5": "stmt 3: expr 3: form", "a(1, 2, 3, 4, 5) = 5": "stmt 9: expr 9: long", "a(b(1, 2, 3, 4, 5)) = 5": "stmt 11: expr 11: long",
		"5 = x": "stmt 0: form", "(x) = 5": "stmt 0: form", "-x = 5": "stmt 0: form", "= 5": "stmt 0: form", ")": "stmt 0: form", "then": "stmt 0: form", "then = 5": "stmt 0: form"} {
		refused(t, s, want)
	}
}

func TestDo(t *testing.T) {
	one, n := num(1), variable("n")
	taken(t, "do i = 1, n", do("i", one, n, 1))
	taken(t, "do i=1,n,1", do("i", one, n, 1))
	taken(t, "do i_9 = -n, a(n, 2) + 1, 3 ! up\n", do("i_9", neg(n), add(elem("a", n, num(2)), one), 3))
	taken(t, "do i = n, 1, -2", do("i", n, one, -2))
	taken(t, "do i = (n), ((1)), - 2", do("i", n, one, -2))
	taken(t, "do i = 1, 2, 0", do("i", one, num(2), 0))
	taken(t, "do i = 1, 2, -000", do("i", one, num(2), 0))
	taken(t, "do i = 1, 2, 9223372036854775807", do("i", one, num(2), math.MaxInt64))
	taken(t, "do i = 1, 2, -9223372036854775807", do("i", one, num(2), -math.MaxInt64))
	for s, want := range map[string]string{"do": "stmt 1: form", "do 5": "stmt 1: form", "do =": "stmt 1: form", "do do": "stmt 1: form", "do if = 1, 2": "stmt 1: form", "do (i) = 1, 2": "stmt 1: form", "do i": "stmt 2: form", "do i 1": "stmt 2: form", "do i == 1, 2": "stmt 2: form", "do a(1) = 1, 2": "stmt 2: form", "do i =": "stmt 3: expr 0: form", "do i = ,": "stmt 3: expr 0: form", "do i = 1": "stmt 4: form", "do i = 1 2": "stmt 4: form", "do i = 1)": "stmt 4: form", "do i = 1 +, 2": "stmt 5: expr 2: form", "do i = 1 + 1": "stmt 6: form",
		"do i = 1,": "stmt 5: expr 0: form", "do i = 1,, 2": "stmt 5: expr 0: form", "do i = 1, (2": "stmt 7: expr 2: form", "do i = 1, 2 3": "stmt 6: form", "do i = 1, 2)": "stmt 6: form", "do i = 1, 2,": "stmt 7: form", "do i = 1, 2, n": "stmt 7: form", "do i = 1, 2, +1": "stmt 7: form", "do i = 1, 2, (1)": "stmt 7: form", "do i = 1, 2, do": "stmt 7: form", "do i = 1, 2, -": "stmt 8: form", "do i = 1, 2, -n": "stmt 8: form", "do i = 1, 2, --1": "stmt 8: form", "do i = 1, 2, -(1)": "stmt 8: form", "do i = 1, 2, 3, 4": "stmt 8: form", "do i = 1, 2, 3 + 4": "stmt 8: form", "do i = 1, 2, -3 4": "stmt 9: form", "do i = a(1, 2, 3, 4, 5), 2": "stmt 12: expr 9: long", "do i = 1, a(1, 2, 3, 4, 5)": "stmt 14: expr 9: long", "do i = 1, 2, 9223372036854775808": "stmt 0: word 13: over", "do i = 1, 2, -9223372036854775808": "stmt 0: word 14: over"} {
		refused(t, s, want)
	}
}

func TestEnds(t *testing.T) {
	for s, kind := range map[string]int{"end do": stmt.EndDo, "\tend\t \tdo! x\n": stmt.EndDo, "end if": stmt.EndIf, "  end  if ": stmt.EndIf, "else": stmt.Else, " else\n": stmt.Else} {
		taken(t, s, stmt.Stmt{Kind: kind})
	}
	for _, w := range strings.Fields("x 5 ( ) , = - integer end then else read print") {
		refused(t, "end "+w, "stmt 1: form")
		refused(t, "end "+w+" do", "stmt 1: form")
		refused(t, "else "+w, "stmt 1: form")
		refused(t, "end do "+w, "stmt 2: form")
		refused(t, "end if "+w, "stmt 2: form")
	}
	refused(t, "end", "stmt 1: form")
	refused(t, "else if", "stmt 1: form")
	refused(t, "else do", "stmt 1: form")
	refused(t, "end do if", "stmt 2: form")
	refused(t, "end if do", "stmt 2: form")
	taken(t, "enddo = 1", set(variable("enddo"), num(1)))
	refused(t, "enddo", "stmt 1: form")
}

func TestIf(t *testing.T) {
	a, b := variable("a"), variable("b")
	for _, sign := range []string{"<", "<=", ">", ">=", "==", "/="} {
		taken(t, "if (a "+sign+" b) then", ifThen(a, sign, b))
		taken(t, "if(-a(1)"+sign+"(b-1)*2)then!", ifThen(neg(elem("a", num(1))), sign, mul(sub(b, num(1)), num(2))))
		refused(t, "if ("+sign+" b) then", "stmt 2: expr 0: form")
		refused(t, "if (a "+sign+" ) then", "stmt 4: expr 2: form")
		refused(t, "if ((a "+sign+" b)) then", "stmt 4: expr 2: form")
		refused(t, "if (a "+sign+" b "+sign+" a) then", "stmt 5: form")
		refused(t, "if (a(1, 2, 3, 4, 5) "+sign+" b) then", "stmt 11: expr 9: long")
		refused(t, "if (a "+sign+" a(1, 2, 3, 4, 5)) then", "stmt 13: expr 11: long")
	}
	for s, want := range map[string]string{"if": "stmt 1: form", "if a < b then": "stmt 1: form", "if then": "stmt 1: form", "if )": "stmt 1: form", "if (": "stmt 2: expr 0: form", "if () then": "stmt 2: expr 0: form", "if (a) then": "stmt 3: expr 1: form", "if (a = b) then": "stmt 3: expr 1: form", "if (a": "stmt 3: expr 1: form", "if (a <": "stmt 4: expr 2: form", "if (a < b": "stmt 5: form", "if (a < b then": "stmt 5: form", "if (a < b, a) then": "stmt 5: form", "if (a < b)": "stmt 6: form", "if (a < b) x = 1": "stmt 6: form", "if (a < b)) then": "stmt 6: form", "if (a < b) else": "stmt 6: form", "if (a < b) then then": "stmt 7: form", "if (a < b) then x = 1": "stmt 7: form", "if = 1": "stmt 1: form"} {
		refused(t, s, want)
	}
}

func TestReadAndPrint(t *testing.T) {
	x, a := variable("x"), elem("a", num(1))
	taken(t, "read x", read(x))
	taken(t, "read\ta(1) ! in\n", read(a))
	taken(t, "read a(a(1) + x, (2))", read(elem("a", add(a, x), num(2))))
	taken(t, "print x", printed(x))
	taken(t, "print(x)", printed(x))
	taken(t, "print-5", printed(neg(num(5))))
	taken(t, "print (a(1)) - (1 - x)", printed(sub(a, sub(num(1), x))))
	taken(t, "reads = printx", set(variable("reads"), variable("printx")))
	for s, want := range map[string]string{"read": "stmt 1: form", "read 5": "stmt 1: form", "read (x)": "stmt 1: form", "read -x": "stmt 1: form", "read read": "stmt 1: form", "read x y": "stmt 2: form", "read x + 1": "stmt 2: form", "read x, y": "stmt 2: form", "read x =": "stmt 2: form", "read x)": "stmt 2: form", "read a(": "stmt 3: expr 2: form", "read a()": "stmt 3: expr 2: form", "read a(1": "stmt 4: expr 3: form", "read a(1) + 1": "stmt 5: form", "read a(1)(1)": "stmt 5: form", "read a(1 2)": "stmt 4: expr 3: form", "read a(1, 2, 3, 4, 5)": "stmt 10: expr 9: long",
		"print": "stmt 1: expr 0: form", "print +": "stmt 1: expr 0: form", "print print": "stmt 1: expr 0: form", "print x y": "stmt 2: form", "print x, y": "stmt 2: form", "print x = 1": "stmt 2: form", "print x < 1": "stmt 2: form", "print x +": "stmt 3: expr 2: form", "print (x": "stmt 3: expr 2: form", "print x)": "stmt 2: form", "print a(1, 2, 3, 4, 5)": "stmt 10: expr 9: long"} {
		refused(t, s, want)
	}
}

func TestNestAtItsBound(t *testing.T) {
	for _, sign := range []string{"(", "-"} {
		full := strings.Repeat(sign, api.MaxNest)
		end := ""
		if sign == "(" {
			end = strings.Repeat(")", api.MaxNest)
		}
		for s, began := range map[string]int{"x = %s": 2, "print %s": 1, "do i = %s, 1": 3, "do i = 1, %s": 5, "if (%s < 1) then": 2, "read a(%s)": 1, "a(%s) = 1": 0} {
			x, err := stmt.Parse(fmt.Sprintf(s, full+"y"+end))
			if err != nil || x.Kind == stmt.Empty {
				t.Errorf("P601: %q, %d nested: %v", s, api.MaxNest, err)
			}
			own := api.MaxNest
			if strings.Contains(s, "a(%s)") {
				own += 2
			}
			refused(t, fmt.Sprintf(s, full+sign+"y"+end), fmt.Sprintf("stmt %d: expr %d: long", began+own, own))
		}
	}
}

// What tok.Line tells is within, as it was; its place is a byte and not a word.
func TestWordsThatAreNone(t *testing.T) {
	for s, want := range map[string]string{"A": "stmt 0: word 0: word", " x = ?": "stmt 0: word 5: word", "x = 5y": "stmt 0: word 5: word", "print 1 \n2": "stmt 0: word 8: word", "x = 1\n\n": "stmt 0: word 5: word", "x\r\n": "stmt 0: word 1: word", "x = \xff ! ?": "stmt 0: word 4: word", "x = 9223372036854775808": "stmt 0: word 4: over", "_": "stmt 0: word 0: word"} {
		refused(t, s, want)
	}
	refused(t, "read "+strings.Repeat("x", api.MaxName+1), "stmt 0: word 5: long")
	taken(t, "print x ! A ? 5y 9223372036854775808 \xff\n", printed(variable("x")))
}

// The Faults can be asked one by one: this one's own, and the one within.
func TestFaultsWrap(t *testing.T) {
	for s, want := range map[string]struct {
		at    int
		part  string
		inner int
		err   api.Errno
	}{"x = 5y": {0, "word", 5, api.ErrWord}, "x = 1 + (": {5, "expr", 3, api.ErrForm}, "if (a < b(1, 2, 3, 4, 5": {13, "expr", 11, api.ErrLong}, "else 5": {1, "", 0, api.ErrForm}, "integer a(0)": {3, "", 0, api.ErrArg}, "integer a(1, 1, 1, 1, 1)": {10, "", 0, api.ErrLong}} {
		_, err := stmt.Parse(s)
		var f, within *api.Fault
		if !errors.As(err, &f) || f.Part != "stmt" || f.At != want.at || !errors.Is(err, want.err) {
			t.Errorf("P601: %q: %v", s, err)
			continue
		}
		if want.part == "" {
			if f.Err != want.err {
				t.Errorf("P601: %q: within: %v", s, f.Err)
			}
			continue
		}
		if !errors.As(f.Err, &within) || within.Part != want.part || within.At != want.inner || within.Err != want.err {
			t.Errorf("P601: %q: within: %v", s, f.Err)
		}
	}
}

// model reads words as the promise has the forms; the first fault ends it, by a panic with its words.
type model struct {
	l  []tok.Tok
	at int
}

type fault string

func (m *model) fail(err string) { panic(fault(fmt.Sprintf("stmt %d: %s", m.at, err))) }

func (m *model) is(s string) bool { return m.at < len(m.l) && m.l[m.at].Text == s }

func (m *model) words(l ...string) {
	for _, s := range l {
		if !m.is(s) {
			m.fail("form")
		}
		m.at++
	}
}

func (m *model) word(kind int) tok.Tok {
	if m.at == len(m.l) || m.l[m.at].Kind != kind {
		m.fail("form")
	}
	m.at++
	return m.l[m.at-1]
}

func (m *model) began(n int, err error) {
	if err != nil {
		m.at += err.(*api.Fault).At
		m.fail(err.Error())
	}
	m.at += n
}

func (m *model) expression() expr.Expr {
	e, n, err := expr.Parse(m.l[m.at:])
	m.began(n, err)
	return e
}

// target takes the most words that are a Var or an Elem and nothing else.
func (m *model) target() expr.Expr {
	from := m.at
	m.word(tok.Name)
	if m.is("(") {
		for end := len(m.l); end > m.at; end-- {
			e, n, err := expr.Parse(m.l[from:end])
			if err == nil && n == end-from && e.Kind == expr.Elem {
				m.at = end
				return e
			}
		}
	}
	if !m.is("(") {
		return variable(m.l[from].Text)
	}
	m.at = from
	return m.expression()
}

func (m *model) items() []stmt.Item {
	l := []stmt.Item{{Name: m.word(tok.Name).Text}}
	x := &l[0]
	for m.is("(") && len(x.Dims) == 0 || m.is(",") && len(x.Dims) > 0 {
		if len(x.Dims) == api.MaxRank {
			m.fail("long")
		}
		m.at++
		x.Dims = append(x.Dims, m.word(tok.Number).N)
		if x.Dims[len(x.Dims)-1] == 0 {
			m.at--
			m.fail("arg")
		}
	}
	if len(x.Dims) > 0 {
		m.words(")")
	}
	if m.is(",") {
		m.at++
		l = append(l, m.items()...)
	}
	return l
}

func (m *model) step() int64 {
	if m.at == len(m.l) {
		return 1
	}
	m.words(",")
	if m.is("-") {
		m.at++
		return -m.word(tok.Number).N
	}
	return m.word(tok.Number).N
}

func (m *model) cond() expr.Cond {
	c, n, err := expr.ParseCond(m.l[m.at:])
	m.began(n, err)
	return c
}

func (m *model) statement() (x stmt.Stmt) {
	switch {
	case len(m.l) == 0:
		return x
	case m.is("integer"):
		m.at++
		return decl(m.items()...)
	case m.is("do"):
		m.at++
		x = stmt.Stmt{Kind: stmt.Do, Name: m.word(tok.Name).Text}
		m.words("=")
		x.Lo = m.expression()
		m.words(",")
		x.Hi = m.expression()
		x.Step = m.step()
		return x
	case m.is("end"):
		m.at++
		if m.is("do") {
			m.at++
			return stmt.Stmt{Kind: stmt.EndDo}
		}
		m.words("if")
		return stmt.Stmt{Kind: stmt.EndIf}
	case m.is("if"):
		m.words("if", "(")
		x = stmt.Stmt{Kind: stmt.If, Cond: m.cond()}
		m.words(")", "then")
		return x
	case m.is("else"):
		m.at++
		return stmt.Stmt{Kind: stmt.Else}
	case m.is("read"):
		m.at++
		return read(m.target())
	case m.is("print"):
		m.at++
		return printed(m.expression())
	}
	to := m.target()
	m.words("=")
	return set(to, m.expression())
}

func (m *model) whole() (x stmt.Stmt, bad string) {
	defer func() {
		if f, ok := recover().(fault); ok {
			x, bad = stmt.Stmt{}, string(f)
		}
	}()
	x = m.statement()
	if m.at < len(m.l) {
		m.fail("form")
	}
	return x, ""
}

// asked holds Parse against the model, and what Text tells of it against P602.
func asked(t *testing.T, s string) {
	t.Helper()
	l, err := tok.Line(s)
	if err != nil {
		t.Fatalf("%q: %v", s, err)
	}
	m := model{l: l}
	want, bad := m.whole()
	if bad != "" {
		refused(t, s, bad)
		return
	}
	taken(t, s, want)
	taken(t, stmt.Text(want), want)
}

// everyText calls f with begin and each list of at most n of the words behind it.
func everyText(begin string, n int, from []string, f func(s string)) {
	f(begin)
	if n > 0 {
		for _, w := range from {
			everyText(begin+" "+w, n-1, from, f)
		}
	}
}

func TestParseByTheForms(t *testing.T) {
	all := strings.Fields("integer do end if then else read print a 1 0 = , ( ) - + < *")
	for _, begin := range strings.Fields("integer do end if else read print a 1 (") {
		everyText(begin, 3, all, func(s string) { asked(t, s) })
	}
	for _, begin := range []string{"integer a (", "integer a , b ( 2 ,", "integer a ( 1 , 1 , 1 , 1", "do a =", "do a = 1", "do a = 1 ,", "do a = 1 , 1", "if (", "if ( a <", "if ( a < 1", "if ( a < 1 )", "read a (", "read a ( 1", "a (", "a ( 1", "a =", "a ( 1 ) ="} {
		everyText(begin, 2, all, func(s string) { asked(t, s) })
	}
	everyText("", 3, all, func(s string) { asked(t, s) })
	everyText("integer", 6, strings.Fields("a 1 0 ( ) ,"), func(s string) { asked(t, s) })
	everyText("do i = 1", 5, strings.Fields("a 1 0 - , ("), func(s string) { asked(t, s) })
	everyText("if", 6, strings.Fields("a ( ) < then"), func(s string) { asked(t, s) })
	everyText("read", 6, strings.Fields("a ( ) , +"), func(s string) { asked(t, s) })
	everyText("a", 6, strings.Fields("a ( ) = ,"), func(s string) { asked(t, s) })
	everyText("end", 3, strings.Fields("end do if else"), func(s string) { asked(t, s) })
}

// tells tells whether Text answers just this, and P602: it is read again as again has it.
func tells(t *testing.T, x stmt.Stmt, want string, again stmt.Stmt) {
	t.Helper()
	if s := stmt.Text(x); s != want {
		t.Errorf("P601: Text(%v): %q; want %q", x, s, want)
	}
	y, err := stmt.Parse(want)
	if err != nil || !alike(y, again) {
		t.Errorf("P602: %q: %v, %v; want %v", want, y, err, again)
	}
	if s := stmt.Text(y); s != want {
		t.Errorf("P602: %q is told as %q once it is read", want, s)
	}
}

func TestText(t *testing.T) {
	x, a := variable("x"), elem("a", num(1), add(variable("i"), num(2)))
	for want, s := range map[string]stmt.Stmt{
		"": {}, "end do": {Kind: stmt.EndDo}, "end if": {Kind: stmt.EndIf}, "else": {Kind: stmt.Else},
		"integer q":                         decl(item("q")),
		"integer a, b(10, 2), c(3)":         decl(item("a"), item("b", 10, 2), item("c", 3)),
		"integer a(1, 2, 3, 4)":             decl(item("a", 1, 2, 3, 4)),
		"integer a(9223372036854775807), b": decl(item("a", math.MaxInt64), item("b")),
		"x = 1":                             set(x, num(1)),
		"a(1, i + 2) = -x":                  set(a, neg(x)),
		"x = x - (x - 1)":                   set(x, sub(x, sub(x, num(1)))),
		"do i = 1, x":                       do("i", num(1), x, 1),
		"do i = x, 1, -1":                   do("i", x, num(1), -1),
		"do i = x, 1, 0":                    do("i", x, num(1), 0),
		"do i = x, 1, 2":                    do("i", x, num(1), 2),
		"do i_1 = a(1, i + 2), x - (-x), 9223372036854775807": do("i_1", a, sub(x, neg(x)), math.MaxInt64),
		"do i = -x, (x + 1) * 2, -9223372036854775807":        do("i", neg(x), mul(add(x, num(1)), num(2)), -math.MaxInt64),
		"if (x < 1) then":                ifThen(x, "<", num(1)),
		"if (a(1, i + 2) /= -x) then":    ifThen(a, "/=", neg(x)),
		"if ((x + 1) * 2 >= x * 2) then": ifThen(mul(add(x, num(1)), num(2)), ">=", mul(x, num(2))),
		"read x":                         read(x),
		"read a(1, i + 2)":               read(a),
		"print x":                        printed(x),
		"print -(x + 1)":                 printed(neg(add(x, num(1)))),
		"print (x + 1) * 2":              printed(mul(add(x, num(1)), num(2))),
	} {
		tells(t, s, want, s)
	}
}

// readAgain is the tree with its numbers below 0 as chapter 5 has them.
func readAgain(e expr.Expr) expr.Expr {
	switch {
	case e.Kind == expr.Num && e.N == math.MinInt64:
		return sub(neg(num(math.MaxInt64)), num(1))
	case e.Kind == expr.Num && e.N < 0:
		return neg(num(-e.N))
	}
	again := expr.Expr{Kind: e.Kind, N: e.N, Name: e.Name}
	for _, a := range e.A {
		again.A = append(again.A, readAgain(a))
	}
	return again
}

func TestNumbersBelowZero(t *testing.T) {
	for want, x := range map[string]stmt.Stmt{
		"i = (-9)":                         set(variable("i"), num(-9)),
		"print (-9223372036854775807 - 1)": printed(num(math.MinInt64)),
		"do i = (-5), 7, -3":               do("i", num(-5), num(7), -3),
		"do i = 7, (-5)":                   do("i", num(7), num(-5), 1),
		"if ((-1) < (-2)) then":            ifThen(num(-1), "<", num(-2)),
		"read a((-1))":                     read(elem("a", num(-1))),
		"a((-1)) = -(-2)":                  set(elem("a", num(-1)), neg(num(-2))),
	} {
		y, err := stmt.Parse(want)
		again := x
		again.To, again.E, again.Lo, again.Hi = readAgain(x.To), readAgain(x.E), readAgain(x.Lo), readAgain(x.Hi)
		again.Cond.A, again.Cond.B = readAgain(x.Cond.A), readAgain(x.Cond.B)
		if s := stmt.Text(x); s != want || err != nil || !alike(y, again) {
			t.Errorf("P602: %q; want %q, read again as %v, %v", s, want, y, err)
		}
	}
}

// everyTree answers trees with one operation or Elem over those of l, and l.
func everyTree(l []expr.Expr) []expr.Expr {
	all := slices.Clone(l)
	for _, a := range l {
		all = append(all, neg(a), elem("f", a))
		for _, b := range l {
			all = append(all, add(a, b), sub(a, b), mul(a, b), op(expr.Div, a, b), elem("f", a, b))
		}
	}
	return all
}

// everyStatement answers statements of all kinds over the trees.
func everyStatement(l []expr.Expr) []stmt.Stmt {
	all := []stmt.Stmt{{}, {Kind: stmt.EndDo}, {Kind: stmt.Else}, {Kind: stmt.EndIf}}
	for i, e := range l {
		other := l[(i*7+3)%len(l)]
		all = append(all, printed(e), set(variable("x"), e), set(elem("a", e, other), other), read(elem("b", other, e)))
		for _, sign := range []string{"<", "<=", ">", ">=", "==", "/="} {
			all = append(all, ifThen(e, sign, other))
		}
		for _, step := range []int64{1, 0, -1, 2, -77, math.MaxInt64, -math.MaxInt64} {
			all = append(all, do("i", e, other, step))
		}
	}
	items := []stmt.Item{item("a"), item("b", 1), item("c", 2, 3), item("d", 4, 5, 6), item("e", 7, 8, 9, math.MaxInt64)}
	for _, a := range items {
		all = append(all, decl(a))
		for _, b := range items {
			all = append(all, decl(a, b), decl(b, a, a))
		}
	}
	return all
}

// tight leaves out each blank that does not part two words that would be one.
func tight(t *testing.T, s string) string {
	l, err := tok.Line(s)
	if err != nil {
		t.Fatalf("%q: %v", s, err)
	}
	made := ""
	for i, w := range l {
		if i > 0 && w.Kind != tok.Sign && l[i-1].Kind != tok.Sign {
			made += " "
		}
		made += w.Text
	}
	return made
}

func TestEveryStatementIsReadAgain(t *testing.T) {
	leaves := []expr.Expr{num(0), num(7), variable("x"), elem("a", variable("i")), neg(variable("y")), add(num(1), variable("x")), mul(num(2), variable("z"))}
	for _, x := range everyStatement(everyTree(leaves)) {
		s := stmt.Text(x)
		taken(t, s, x)
		taken(t, tight(t, s), x)
		taken(t, "\t "+strings.ReplaceAll(s, " ", " \t ")+" ! "+s+"\n", x)
		if strings.Contains(s, "  ") || strings.TrimSpace(s) != s {
			t.Errorf("P601: %q has blanks too many", s)
		}
	}
}

func TestTextAtTheNestBound(t *testing.T) {
	e := variable("x")
	for range api.MaxNest {
		e = neg(e)
	}
	for _, x := range []stmt.Stmt{printed(e), set(elem("a", e), e), read(elem("a", e)), do("i", e, e, 1), ifThen(e, "<", e)} {
		taken(t, stmt.Text(x), x)
	}
	refused(t, stmt.Text(printed(neg(e))), "stmt 21: expr 20: long")
}

// P2: no two lists of an answer, or of two answers, share memory, nor their spare room.
func TestMemoryOfAnswers(t *testing.T) {
	var trees [][]expr.Expr
	var items [][]stmt.Item
	var dims [][]int64
	var walk func(e expr.Expr)
	walk = func(e expr.Expr) {
		trees = append(trees, e.A[:cap(e.A)])
		for _, a := range e.A {
			walk(a)
		}
	}
	for _, s := range []string{"integer a, b(1), c(1, 2), d(1, 2, 3), e", "a(1, b(2) + 1) = a(1, b(2) + 1)", "do i = f(1, 2), f(1, 2), 3", "if (f(1, 2, 3) < f(1, 2, 3)) then", "read f(-1, 2)", "print f(-1, 2)"} {
		for range 2 {
			x, err := stmt.Parse(s)
			if err != nil {
				t.Fatal(err)
			}
			for _, e := range []expr.Expr{x.To, x.E, x.Lo, x.Hi, x.Cond.A, x.Cond.B} {
				walk(e)
			}
			for _, y := range x.Items {
				dims = append(dims, y.Dims[:cap(y.Dims)])
			}
			items = append(items, x.Items[:cap(x.Items)])
		}
	}
	marked(t, trees, func(i int) expr.Expr { return num(int64(i)) }, sameTree)
	marked(t, items, func(i int) stmt.Item { return item(strconv.Itoa(i)) }, sameItem)
	marked(t, dims, func(i int) int64 { return int64(i) }, func(a, b int64) bool { return a == b })
}

// marked writes each list's own mark all over it, and then asks whether it is there still.
func marked[T any](t *testing.T, lists [][]T, mark func(i int) T, same func(a, b T) bool) {
	t.Helper()
	for i, l := range lists {
		for j := range l {
			l[j] = mark(i)
		}
	}
	for i, l := range lists {
		for _, x := range l {
			if !same(x, mark(i)) {
				t.Fatal("P2: two lists share memory")
			}
		}
	}
}

// P2: what is handed in stays as it was, its spare room too.
func TestMemoryHandedIn(t *testing.T) {
	dims := []int64{1, 2, 3, 4}
	items := []stmt.Item{{Name: "a", Dims: dims[:2]}, item("b"), item("c"), item("d")}
	parts := []expr.Expr{num(-1), neg(num(2)), num(3), num(4)}
	tree := expr.Expr{Kind: expr.Elem, Name: "a", A: parts[:2]}
	for kind := stmt.Empty; kind <= stmt.Print; kind++ {
		x := stmt.Stmt{Kind: kind, Items: items[:2], To: tree, E: tree, Cond: expr.Cond{Op: "<", A: tree, B: tree}, Name: "n", Lo: tree, Hi: tree, Step: 5}
		stmt.Text(x)
	}
	if !slices.Equal(dims, []int64{1, 2, 3, 4}) || !slices.EqualFunc(items, []stmt.Item{item("a", 1, 2), item("b"), item("c"), item("d")}, sameItem) || !slices.EqualFunc(parts, []expr.Expr{num(-1), neg(num(2)), num(3), num(4)}, sameTree) {
		t.Error("P2: a statement was changed")
	}
}

// P2: no list and an empty one are told alike.
func TestEmptyLists(t *testing.T) {
	none, empty := decl(item("a")), decl(stmt.Item{Name: "a", Dims: []int64{}})
	if stmt.Text(none) != "integer a" || stmt.Text(empty) != "integer a" {
		t.Errorf("P2: %q, %q", stmt.Text(none), stmt.Text(empty))
	}
	if stmt.Text(decl()) != stmt.Text(stmt.Stmt{Kind: stmt.Decl, Items: []stmt.Item{}}) {
		t.Error("P2: no Items and an empty list of them")
	}
}

// P3 and P5: a refused line leaves nothing behind.
func TestNothingIsKept(t *testing.T) {
	for range 3 {
		refused(t, "integer a(1, 2, 3, 4, 5)", "stmt 10: long")
		taken(t, "integer a(1)", decl(item("a", 1)))
		refused(t, "x = (", "stmt 3: expr 1: form")
		taken(t, "", stmt.Stmt{})
		refused(t, "?", "stmt 0: word 0: word")
		taken(t, "else", stmt.Stmt{Kind: stmt.Else})
	}
}

// P1, P8: statements that are none are gone through, too.
func TestStatementsThatAreNone(t *testing.T) {
	odd := []expr.Expr{{}, op(9), op(expr.Neg), op(expr.Add, op(-1)), elem(""), num(math.MinInt64), variable("\xff")}
	for kind := -2; kind <= 11; kind++ {
		for _, e := range odd {
			x := stmt.Stmt{Kind: kind, Items: []stmt.Item{item(""), item("(", 0, -1, math.MinInt64, 4, 5)}, To: e, E: e, Cond: expr.Cond{A: e, B: e}, Lo: e, Hi: e, Step: math.MinInt64}
			if stmt.Text(x) != stmt.Text(x) {
				t.Errorf("P3: Text(%v)", x)
			}
		}
	}
	for _, kind := range []int{math.MinInt, math.MaxInt} {
		stmt.Text(stmt.Stmt{Kind: kind})
	}
}

// What a Kind does not have is not told.
func TestFieldsOfOtherKinds(t *testing.T) {
	for kind, want := range map[int]string{stmt.Empty: "", stmt.EndDo: "end do", stmt.Else: "else", stmt.EndIf: "end if", stmt.Decl: "integer a", stmt.Set: "x = y", stmt.Do: "do i = l, h, 3", stmt.If: "if (p < q) then", stmt.Read: "read x", stmt.Print: "print y"} {
		x := stmt.Stmt{Kind: kind, Items: []stmt.Item{item("a")}, To: variable("x"), E: variable("y"), Cond: expr.Cond{Op: "<", A: variable("p"), B: variable("q")}, Name: "i", Lo: variable("l"), Hi: variable("h"), Step: 3}
		if s := stmt.Text(x); s != want {
			t.Errorf("P601: Text of kind %d: %q; want %q", kind, s, want)
		}
	}
}

// P1: however long and deep a line is, the calls end: what they would need in calls within calls is more than is given here.
func TestLongLines(t *testing.T) {
	const n = 30000
	defer debug.SetMaxStack(debug.SetMaxStack(1 << 20))
	deep := strings.Repeat("a(", n) + "1" + strings.Repeat(")", n)
	long := "1" + strings.Repeat(" + x", n)
	for _, e := range []string{deep, long} {
		for _, s := range []string{"x = %s", "a(%s) = 1", "do i = %s, 1", "do i = 1, %s, -2", "if (%s < 1) then", "if (1 < %s) then", "read a(%s)", "print %s"} {
			s = fmt.Sprintf(s, e)
			x, err := stmt.Parse(s)
			if err != nil || stmt.Text(x) != s {
				t.Fatalf("P1: %.20q: %v", s, err)
			}
		}
	}
	items := "integer a" + strings.Repeat(", b, c(1, 2)", n)
	x, err := stmt.Parse(items)
	if err != nil || len(x.Items) != 2*n+1 || stmt.Text(x) != items {
		t.Errorf("P1: many Items: %d, %v", len(x.Items), err)
	}
	refused(t, strings.Repeat("a(", n)+" = 1", fmt.Sprintf("stmt %d: expr %d: form", 2*n, 2*n))
	refused(t, "read a"+strings.Repeat("(", n), "stmt 23: expr 22: long")
	refused(t, "a"+strings.Repeat(")", n), "stmt 1: form")
}
