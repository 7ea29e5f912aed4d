package descr

import "carafe/api"

// leadingFields takes the fields off the beginning of s, but no more than a method may have: one too many is left in the rest.
func leadingFields(s string) ([]string, string) {
	var fields []string
	for len(fields) < api.MaxParams {
		n := fieldLength(s)
		if n == 0 {
			break
		}
		fields = append(fields, s[:n])
		s = s[n:]
	}
	return fields, s
}

// fieldLength is how many bytes the field has with which s begins; 0, if it begins with none.
func fieldLength(s string) int {
	n := 0
	if s != "" && s[0] == '[' {
		n = 1
	}
	if n == len(s) {
		return 0
	}
	switch s[n] {
	case 'I':
		return n + 1
	case 'L':
		end := n + 1 + nameLength(s[n+1:])
		if end > n+1 && end < len(s) && s[end] == ';' {
			return end + 1
		}
	}
	return 0
}

// nameLength is how many bytes the name has with which s begins, the longest that a name may be at most; 0, if it begins with none.
func nameLength(s string) int {
	n := 0
letters:
	for n < len(s) && n < maxName {
		switch c := s[n]; {
		case c >= 'a' && c <= 'z', c >= 'A' && c <= 'Z', c == '_', c == '$':
		case c >= '0' && c <= '9' && n > 0:
		default:
			break letters
		}
		n++
	}
	return n
}
