package lin

import "strconv"

func Text(a Form, names []string) string {
	var s []byte
	for i, c := range a.C {
		if c != 0 {
			s = appendTerm(s, c, name(names, i))
		}
	}
	if a.K != 0 || len(s) == 0 {
		s = strconv.AppendUint(appendSign(s, a.K), size(a.K), 10)
	}
	return string(s)
}

// appendTerm leaves a size of 1 off: the name alone tells it.
func appendTerm(s []byte, c int64, name string) []byte {
	s = appendSign(s, c)
	switch c {
	default:
		s = strconv.AppendUint(s, size(c), 10)
		s = append(s, '*')
		fallthrough
	case 1, -1:
		s = append(s, name...)
	}
	return s
}

// appendSign tells a sign apart from the size behind it, since between two terms blanks stand round it.
func appendSign(s []byte, n int64) []byte {
	first := len(s) == 0
	switch {
	case !first && n < 0:
		return append(s, " - "...)
	case !first:
		return append(s, " + "...)
	case n < 0:
		return append(s, '-')
	}
	return s
}

// name never answers an empty text, so that a term is never empty.
func name(names []string, i int) string {
	if i < len(names) && names[i] != "" {
		return names[i]
	}
	return "x" + strconv.Itoa(i)
}

// size is unsigned, since the least number's size is no int64.
func size(n int64) uint64 {
	if n < 0 {
		return -uint64(n)
	}
	return uint64(n)
}
