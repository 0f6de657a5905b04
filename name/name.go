// Package name has the names of files and directories, and the paths that are made of them. See shared/doc/01-name.md.
package name

import (
	"iter"
	"strconv"
	"strings"

	"burgage/api"
)

// slash stands between the names of a path, and before a typed path.
const slash = "/"

// Kinds of bytes.
const (
	other = iota // in no name
	letter
	digit
	sign
)

// kinds has the bytes that names are made of; all others are of the kind other.
var kinds = [...]struct {
	first, last rune
	kind        int
}{
	{'a', 'z', letter},
	{'A', 'Z', letter},
	{'0', '9', digit},
	{'.', '.', sign},
	{'_', '_', sign},
	{'-', '-', sign},
	{'~', '~', sign},
}

// kindOf may be asked about runes in the place of bytes: a byte above 127 is part of a rune above 127, or becomes U+FFFD, and neither is in the table.
func kindOf(r rune) int {
	for _, k := range kinds {
		if k.first <= r && r <= k.last {
			return k.kind
		}
	}
	return other
}

// Valid reports whether n is a name.
func Valid(n string) bool {
	if n == "" || len(n) > api.MaxName || n == "." || n == ".." {
		return false
	}
	for _, r := range n {
		if kindOf(r) == other {
			return false
		}
	}
	return true
}

// names yields the texts between the slashes of p, which are its names if p is a path. The empty text is the root, and yields none instead of one that is empty.
func names(p string) iter.Seq[string] {
	return func(yield func(string) bool) {
		rest, more := p, p != ""
		for more {
			var n string
			n, rest, more = strings.Cut(rest, slash)
			if !yield(n) {
				return
			}
		}
	}
}

// Parts returns the names of the path p, in order.
func Parts(p string) ([]string, api.Errno) {
	var l []string
	for n := range names(p) {
		if len(l) == api.MaxDepth || !Valid(n) {
			return nil, api.ErrPath
		}
		l = append(l, n)
	}
	return l, api.OK
}

// under returns p below dir, where dir may be the root.
func under(dir, p string) string {
	if dir == "" {
		return p
	}
	return dir + slash + p
}

// Join returns the path of the name n in the directory dir.
func Join(dir, n string) (string, api.Errno) {
	l, err := Parts(dir)
	if err != api.OK {
		return "", err
	}
	if !Valid(n) {
		return "", api.ErrName
	}
	if len(l) == api.MaxDepth {
		return "", api.ErrBig
	}
	return under(dir, n), api.OK
}

// Split returns the directory and the last name of the path p.
func Split(p string) (string, string, api.Errno) {
	l, err := Parts(p)
	if err != api.OK {
		return "", "", err
	}
	if len(l) == 0 {
		return "", "", api.ErrArg
	}
	last := l[len(l)-1]
	return strings.TrimSuffix(p[:len(p)-len(last)], slash), last, api.OK
}

// Below reports whether p is equal to q, or below q.
func Below(p, q string) bool {
	rest, is := strings.CutPrefix(p, q)
	return is && (rest == "" || q == "" || strings.HasPrefix(rest, slash))
}

// Swap returns q with to in the place of from at its beginning, and whether q is equal to from, or below it.
func Swap(q, from, to string) (string, bool) {
	if !Below(q, from) {
		return q, false
	}
	if q == from {
		return to, true
	}
	rest := q
	if from != "" {
		rest = q[len(from)+len(slash):]
	}
	return under(to, rest), true
}

// Limits of copies. With them, 8 bytes at least are left for the beginning of a name.
const (
	maxTag    = 4
	maxNumber = 99
)

// validTag reports whether tag may be in the name of a copy.
func validTag(tag string) bool {
	if tag == "" || len(tag) > maxTag {
		return false
	}
	for _, r := range tag {
		if kindOf(r) != letter {
			return false
		}
	}
	return true
}

// Copy returns the name of the copy k of n, or the empty text if there is none.
func Copy(n, tag string, k int) string {
	if !Valid(n) || !validTag(tag) || k < 0 || k > maxNumber {
		return ""
	}
	end := "~" + tag + "~" + strconv.Itoa(k)
	return n[:min(len(n), api.MaxName-len(end))] + end
}

// Print returns the typed path of p.
func Print(p string) string { return slash + p }

// Parse returns the path with the typed path s.
func Parse(s string) (string, api.Errno) {
	p, is := strings.CutPrefix(s, slash)
	if !is {
		return "", api.ErrForm
	}
	if _, err := Parts(p); err != api.OK {
		return "", api.ErrForm
	}
	return p, api.OK
}
