package name_test

import (
	"math"
	"slices"
	"strconv"
	"strings"
	"testing"

	"burgage/api"
	"burgage/name"
)

const (
	letters = "abcdefghijklmnopqrstuvwxyzABCDEFGHIJKLMNOPQRSTUVWXYZ"
	allowed = letters + "0123456789._-~"

	name16 = "abcdefghijklmnop"
	path7  = "a/b/c/d/e/f/g"
	path8  = path7 + "/h"
)

// odd are texts that are neither names nor paths.
var odd = []string{
	"/", "//", "/a", "a/", "a//b", "a/b/", "/a/b", ".", "..", "a/.", "a/..", "./a", "../a", "a/../b",
	" ", "a b", " a", "a ", "a\n", "a\t", "\x00", "a\x00b", "a\\b", "a:b", "a*", "a@", "a[", "a`", "a{", "a/b c",
	"é", "aé", "ａ", "\x80", "a\xff", "\xc3", "\ufffd", "a/\xe9", "٣", "\x7f",
	name16 + "q", "a/" + name16 + "q", path8 + "/i", path8 + "/", strings.Repeat("a", 100000), strings.Repeat("a/", 100000), strings.Repeat("/", 100000),
}

// isName says what a name is without the package's table.
func isName(n string) bool {
	return n != "." && n != ".." && 1 <= len(n) && len(n) <= 16 && strings.Trim(n, allowed) == ""
}

func isPath(p string) bool {
	l := strings.Split(p, "/")
	return p == "" || len(l) <= 8 && !slices.ContainsFunc(l, func(n string) bool { return !isName(n) })
}

// texts returns all texts of at most n of the words.
func texts(n int, words ...string) []string {
	l := []string{""}
	last := l
	for range n {
		var next []string
		for _, t := range last {
			for _, w := range words {
				next = append(next, t+w)
			}
		}
		l = append(l, next...)
		last = next
	}
	return l
}

// paths returns all paths of at most n of the names, and some at the limits.
func paths(n int, words ...string) []string {
	l := []string{path7, path8, strings.Repeat(name16+"/", 7) + name16}
	for _, t := range texts(n, wordsBehind("/", words)...) {
		l = append(l, strings.TrimPrefix(t, "/"))
	}
	return l
}

func wordsBehind(sign string, words []string) []string {
	var l []string
	for _, w := range words {
		l = append(l, sign+w)
	}
	return l
}

// P1.1 (A1): each byte, alone and between letters.
func TestValidBytes(t *testing.T) {
	for b := range 256 {
		c := string([]byte{byte(b)})
		for _, n := range []string{c, c + c, "a" + c, c + "a", "a" + c + "b", strings.Repeat("a", 15) + c} {
			if got := name.Valid(n); got != isName(n) {
				t.Errorf("Valid(%q) = %v", n, got)
			}
		}
	}
}

// P1.1 (A1): names of dots, and texts that are no names.
func TestValidTexts(t *testing.T) {
	for _, n := range []string{"a", "A.b", "...", "....", ".a", "a.", "..a", "-", "_", "~", "0", "x~trip~7", name16, strings.Repeat(".", 16)} {
		if !name.Valid(n) {
			t.Errorf("Valid(%q) = false", n)
		}
	}
	for _, n := range append([]string{"", ".", "..", strings.Repeat(".", 17)}, odd...) {
		if name.Valid(n) {
			t.Errorf("Valid(%q) = true", n)
		}
	}
}

// P1.1 (A2) and P1.2: what is a path, and that its parts are names that make it again.
func TestParts(t *testing.T) {
	for _, p := range append(texts(6, "a", "Z9", ".", "/", "~", "\xc3"), append(odd, paths(3, "a", "b", "...")...)...) {
		l, err := name.Parts(p)
		if !isPath(p) {
			if err != api.ErrPath || len(l) != 0 {
				t.Errorf("Parts(%q) = %q, %v", p, l, err)
			}
			continue
		}
		if err != api.OK || strings.Join(l, "/") != p || p == "" && len(l) != 0 {
			t.Errorf("Parts(%q) = %q, %v", p, l, err)
		}
		for _, n := range l {
			if !name.Valid(n) {
				t.Errorf("Parts(%q) has %q", p, n)
			}
		}
	}
}

// P1.1 (A2): examples.
func TestPartsExamples(t *testing.T) {
	for _, x := range []struct {
		p    string
		want []string
		err  api.Errno
	}{
		{"", nil, api.OK},
		{"a", []string{"a"}, api.OK},
		{"a/b", []string{"a", "b"}, api.OK},
		{"a/.../c.d", []string{"a", "...", "c.d"}, api.OK},
		{path8, []string{"a", "b", "c", "d", "e", "f", "g", "h"}, api.OK},
		{"a//b", nil, api.ErrPath},
		{"/", nil, api.ErrPath},
		{"a/..", nil, api.ErrPath},
		{path8 + "/i", nil, api.ErrPath},
	} {
		if got, err := name.Parts(x.p); err != x.err || !slices.Equal(got, x.want) {
			t.Errorf("Parts(%q) = %q, %v", x.p, got, err)
		}
	}
}

// P1.1 (A3): results, errors, and their order.
func TestJoin(t *testing.T) {
	for _, x := range []struct {
		dir, n, want string
		err          api.Errno
	}{
		{"", "a", "a", api.OK},
		{"a", "b", "a/b", api.OK},
		{"a/b", name16, "a/b/" + name16, api.OK},
		{path7, "h", path8, api.OK},
		{"/", "a", "", api.ErrPath},
		{"a/", "b", "", api.ErrPath},
		{path8 + "/i", "a", "", api.ErrPath},
		{"a//b", "..", "", api.ErrPath},
		{"", "..", "", api.ErrName},
		{"", "", "", api.ErrName},
		{"a", "b/c", "", api.ErrName},
		{"a", "/b", "", api.ErrName},
		{"a", name16 + "q", "", api.ErrName},
		{path8, ".", "", api.ErrName},
		{path8, "i", "", api.ErrBig},
	} {
		if got, err := name.Join(x.dir, x.n); got != x.want || err != x.err {
			t.Errorf("Join(%q, %q) = %q, %v", x.dir, x.n, got, err)
		}
	}
	for _, o := range odd {
		if got, err := name.Join(o, "a"); got != "" || err != api.ErrPath {
			t.Errorf("Join(%q, a) = %q, %v", o, got, err)
		}
		if got, err := name.Join("a", o); got != "" || err != api.ErrName {
			t.Errorf("Join(a, %q) = %q, %v", o, got, err)
		}
	}
}

// P1.1 (A4): results and errors.
func TestSplit(t *testing.T) {
	for _, x := range []struct {
		p, dir, n string
		err       api.Errno
	}{
		{"a", "", "a", api.OK},
		{"a/b", "a", "b", api.OK},
		{"a/b/b", "a/b", "b", api.OK},
		{path8, path7, "h", api.OK},
		{"", "", "", api.ErrArg},
	} {
		if dir, n, err := name.Split(x.p); dir != x.dir || n != x.n || err != x.err {
			t.Errorf("Split(%q) = %q, %q, %v", x.p, dir, n, err)
		}
	}
	for _, o := range odd {
		if dir, n, err := name.Split(o); dir != "" || n != "" || err != api.ErrPath {
			t.Errorf("Split(%q) = %q, %q, %v", o, dir, n, err)
		}
	}
}

// P1.3: splitting and joining lead back to each other.
func TestJoinAndSplit(t *testing.T) {
	for _, p := range paths(4, "a", "b", "ab", "...") {
		if p != "" {
			dir, n, err := name.Split(p)
			if again, e := name.Join(dir, n); again != p || err != api.OK || e != api.OK {
				t.Errorf("Split(%q) = %q, %q, %v, which joins to %q, %v", p, dir, n, err, again, e)
			}
		}
		for _, n := range []string{"a", "~", name16} {
			q, err := name.Join(p, n)
			if err != api.OK {
				if err != api.ErrBig || strings.Count(p, "/") != 7 {
					t.Errorf("Join(%q, %q): %v", p, n, err)
				}
				continue
			}
			if dir, last, e := name.Split(q); dir != p || last != n || e != api.OK {
				t.Errorf("Join(%q, %q) = %q, which splits to %q, %q, %v", p, n, q, dir, last, e)
			}
		}
	}
}

// isBelow says it as the chapter does.
func isBelow(p, q string) bool {
	return p == q || q == "" && p != "" || strings.HasPrefix(p, q+"/")
}

// P1.1 (A5) and P1.4: any two texts, and any three.
func TestBelow(t *testing.T) {
	l := append(texts(4, "a", "b", "/"), "a/bc", "ab/c", "é", "é/a", "\xff", "\xff/a")
	above := map[string][]string{}
	for _, p := range l {
		for _, q := range l {
			got := name.Below(p, q)
			if got != isBelow(p, q) {
				t.Errorf("Below(%q, %q) = %v", p, q, got)
			}
			if got {
				above[p] = append(above[p], q)
			}
		}
	}
	for _, p := range l {
		for _, q := range above[p] {
			for _, r := range above[q] {
				if !name.Below(p, r) {
					t.Errorf("%q is below %q, and that below %q", p, q, r)
				}
			}
		}
	}
}

// P1.4: a path is below the paths of its first names, itself, and no other path.
func TestBelowPaths(t *testing.T) {
	all := paths(4, "a", "b", "ab", "a.")
	for _, p := range all {
		l, _ := name.Parts(p)
		first := map[string]bool{}
		for i := range len(l) + 1 {
			first[strings.Join(l[:i], "/")] = true
		}
		for q := range first {
			if !name.Below(p, q) {
				t.Errorf("Below(%q, %q) = false", p, q)
			}
		}
		for _, q := range all {
			if name.Below(p, q) && !first[q] {
				t.Errorf("Below(%q, %q) = true", p, q)
			}
		}
	}
}

// P1.1 (A5): examples, some of them with texts that are no paths.
func TestSwap(t *testing.T) {
	for _, x := range []struct {
		q, from, to, want string
		is                bool
	}{
		{"a/b/c", "a/b", "d", "d/c", true},
		{"a/b", "a/b", "d/e", "d/e", true},
		{"a/b", "a/b", "", "", true},
		{"a/b/c", "a", "", "b/c", true},
		{"a/b", "", "c", "c/a/b", true},
		{"a/b", "", "", "a/b", true},
		{"", "", "c", "c", true},
		{"", "", "", "", true},
		{"ab", "a", "c", "ab", false},
		{"a", "a/b", "c", "a", false},
		{"b/a", "a", "c", "b/a", false},
		{"", "a", "c", "", false},
		{"a//b", "a", "c", "c//b", true},
		{"a//b", "a", "", "/b", true},
		{"a/", "a", "c", "c/", true},
		{"a/", "a", "", "", true},
		{"/a", "", "c", "c//a", true},
		{"/a", "", "", "/a", true},
		{"a b/c", "a b", "\xff", "\xff/c", true},
		{path8, "a", "x/y", "x/y/b/c/d/e/f/g/h", true},
	} {
		if got, is := name.Swap(x.q, x.from, x.to); got != x.want || is != x.is {
			t.Errorf("Swap(%q, %q, %q) = %q, %v", x.q, x.from, x.to, got, is)
		}
	}
}

// swapped says it as the chapter does, for a text that is below from, or equal to it.
func swapped(q, from, to string) string {
	rest := strings.TrimPrefix(q, from+"/")
	if from == "" {
		rest = q
	}
	switch {
	case q == from:
		return to
	case to == "":
		return rest
	}
	return to + "/" + rest
}

// P1.1 (A5) and P1.5: what is below is swapped, and what is not is left.
func TestSwapTexts(t *testing.T) {
	l := texts(3, "a", "b", "/")
	for _, q := range l {
		for _, from := range l {
			for _, to := range []string{"", "a", "b", "a/b", "/", "c c"} {
				want, below := q, isBelow(q, from)
				if below {
					want = swapped(q, from, to)
				}
				if got, is := name.Swap(q, from, to); got != want || is != below {
					t.Errorf("Swap(%q, %q, %q) = %q, %v", q, from, to, got, is)
				}
			}
		}
	}
}

// P1.5: of a path, swapping back leads back.
func TestSwapBack(t *testing.T) {
	all := paths(3, "a", "b", "ab")
	for _, q := range all {
		for _, from := range all {
			for _, to := range []string{"", "a", "b/a", "c", path8} {
				r, is := name.Swap(q, from, to)
				if is != name.Below(q, from) || !is && r != q {
					t.Errorf("Swap(%q, %q, %q) = %q, %v", q, from, to, r, is)
				}
				if back, ok := name.Swap(r, to, from); is && (back != q || !ok || !name.Below(r, to)) {
					t.Errorf("Swap(%q, %q, %q) = %q, and back: %q, %v", q, from, to, r, back, ok)
				}
			}
		}
	}
}

// P1.1 (A6): examples, and what there is no copy for.
func TestCopy(t *testing.T) {
	for _, x := range []struct {
		n, tag string
		k      int
		want   string
	}{
		{"x", "trip", 7, "x~trip~7"},
		{"x", "Z", 0, "x~Z~0"},
		{"x", "t", 99, "x~t~99"},
		{name16, "trip", 10, "abcdefgh~trip~10"},
		{name16, "trip", 9, "abcdefghi~trip~9"},
		{name16, "t", 0, "abcdefghijkl~t~0"},
		{"abcdefgh", "trip", 10, "abcdefgh~trip~10"},
		{"abcdefghi", "trip", 10, "abcdefgh~trip~10"},
		{"x~t~0", "t", 0, "x~t~0~t~0"},
		{"abcdefgh~trip~10", "trip", 10, "abcdefgh~trip~10"},
		{"...", "t", 1, "...~t~1"},
		{"x", "t", -1, ""},
		{"x", "t", 100, ""},
		{"x", "t", math.MaxInt, ""},
		{"x", "t", math.MinInt, ""},
		{"x", "", 1, ""},
		{"x", "abcde", 1, ""},
		{"", "t", 1, ""},
		{".", "t", 1, ""},
		{"..", "t", 1, ""},
		{name16 + "q", "t", 1, ""},
	} {
		if got := name.Copy(x.n, x.tag, x.k); got != x.want {
			t.Errorf("Copy(%q, %q, %d) = %q", x.n, x.tag, x.k, got)
		}
	}
	for _, o := range odd {
		if got := name.Copy(o, "t", 1); got != "" {
			t.Errorf("Copy(%q, t, 1) = %q", o, got)
		}
	}
	for b := range 256 {
		c := string([]byte{byte(b)})
		for _, tag := range []string{c, "a" + c, c + "a", "abc" + c} {
			if got := name.Copy("x", tag, 1); (got != "") != strings.Contains(letters, c) {
				t.Errorf("Copy(x, %q, 1) = %q", tag, got)
			}
		}
	}
}

// P1.6: copies are names with the beginning of the first; equal to it only if it is that copy already; different from each other.
func TestCopies(t *testing.T) {
	for _, n := range []string{"x", "..a", "x~t~0", "abcdefgh", "abcdefghi", "abcdefghijklmn", name16, "abcdefgh~trip~10", "abcdefghijkl~t~0", "~~~~~~~~~~~~~~~~"} {
		made := map[string]string{}
		for _, tag := range []string{"t", "T", "tt", "tri", "trip", "trap"} {
			for k := range 100 {
				c := name.Copy(n, tag, k)
				end := "~" + tag + "~" + strconv.Itoa(k)
				if !name.Valid(c) || !strings.HasSuffix(c, end) || !strings.HasPrefix(n, strings.TrimSuffix(c, end)) {
					t.Errorf("Copy(%q, %q, %d) = %q", n, tag, k, c)
				}
				if len(c) != min(len(n)+len(end), 16) {
					t.Errorf("Copy(%q, %q, %d) = %q, which has %d bytes", n, tag, k, c, len(c))
				}
				if c == n && !strings.HasSuffix(n, end) {
					t.Errorf("Copy(%q, %q, %d) is the name itself", n, tag, k)
				}
				if made[c] != "" {
					t.Errorf("%q is the copy of %q with %s and with %s", c, n, made[c], end)
				}
				made[c] = end
			}
		}
	}
}

// P1.1 (A7) and P1.7: any text is printed; what is parsed is the typed path of a path.
func TestTypedPaths(t *testing.T) {
	for _, p := range append(texts(5, "a", "b", ".", "/", "\xc3"), append(odd, paths(3, "a", "b")...)...) {
		s := name.Print(p)
		if s != "/"+p {
			t.Errorf("Print(%q) = %q", p, s)
		}
		got, err := name.Parse(s)
		if isPath(p) && (got != p || err != api.OK) || !isPath(p) && (got != "" || err != api.ErrForm) {
			t.Errorf("Parse(%q) = %q, %v", s, got, err)
		}
		if got, err := name.Parse(p); err == api.OK && name.Print(got) != p {
			t.Errorf("Parse(%q) = %q", p, got)
		}
	}
	for _, s := range []string{"", "a", "a/b", "//", "/a/", "//a", " /a", "/ a", "/..", "\x00/", "/" + path8 + "/i"} {
		if got, err := name.Parse(s); got != "" || err != api.ErrForm {
			t.Errorf("Parse(%q) = %q, %v", s, got, err)
		}
	}
}

// P1.8: the limits, one below, and one beyond, in every function that has them.
func TestLimits(t *testing.T) {
	for n := 1; n <= 40; n++ {
		long := strings.Repeat("n", n)
		deep := strings.TrimPrefix(strings.Repeat("/p", n), "/")
		if is := name.Valid(long); is != (n <= api.MaxName) {
			t.Errorf("Valid of %d bytes: %v", n, is)
		}
		if _, err := name.Join("", long); (err == api.OK) != (n <= api.MaxName) {
			t.Errorf("Join with %d bytes: %v", n, err)
		}
		if got := name.Copy(long, "t", 0); (got != "") != (n <= api.MaxName) {
			t.Errorf("Copy of %d bytes: %q", n, got)
		}
		if _, err := name.Join(deep, "x"); (err == api.OK) != (n < api.MaxDepth) || (err == api.ErrBig) != (n == api.MaxDepth) {
			t.Errorf("Join at %d names: %v", n, err)
		}
		for p, fits := range map[string]bool{long: n <= api.MaxName, "a/" + long: n <= api.MaxName, deep: n <= api.MaxDepth} {
			_, err := name.Parts(p)
			_, _, errSplit := name.Split(p)
			_, errParse := name.Parse("/" + p)
			if (err == api.OK) != fits || (errSplit == api.OK) != fits || (errParse == api.OK) != fits {
				t.Errorf("%q: Parts %v, Split %v, Parse %v", p, err, errSplit, errParse)
			}
		}
	}
}

// answers has the results of all functions for some arguments as one list.
func answers(p, q, r string, k int) []string {
	l := []string{strconv.FormatBool(name.Valid(p)), strconv.FormatBool(name.Below(p, q)), name.Copy(p, q, k), name.Print(p)}
	parts, e1 := name.Parts(p)
	joined, e2 := name.Join(p, q)
	dir, last, e3 := name.Split(p)
	swapped, is := name.Swap(p, q, r)
	parsed, e4 := name.Parse(p)
	l = append(l, joined, dir, last, swapped, strconv.FormatBool(is), parsed, e1.Error(), e2.Error(), e3.Error(), e4.Error())
	return append(l, parts...)
}

// P1 and P2 of the document: all texts and numbers are accepted; the same arguments have the same results, whatever was asked before.
func TestAllArguments(t *testing.T) {
	l := append([]string{"", "a", "t", "a/b", path8, name16, "/a/b"}, odd...)
	before := map[[2]string][]string{}
	for range 2 {
		for _, p := range l {
			for _, q := range l {
				for _, k := range []int{0, 99, math.MinInt, math.MaxInt} {
					key := [2]string{p, q + strconv.Itoa(k)}
					got := answers(p, q, "a", k)
					if old, is := before[key]; is && !slices.Equal(old, got) {
						t.Fatalf("%q, %q, %d: %q, and before %q", p, q, k, got, old)
					}
					before[key] = got
				}
			}
			slices.Reverse(l)
		}
	}
}
