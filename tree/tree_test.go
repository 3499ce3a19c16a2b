package tree

import (
	"fmt"
	"maps"
	"math"
	"math/rand"
	"path"
	"regexp"
	"slices"
	"strings"
	"testing"

	"lamella/api"
)

// top is the root.
var top = api.Inode{Id: 1, Dir: true}

// folder is a directory, whether it may be or not.
func folder(id, parent uint32, name string) api.Inode {
	return api.Inode{Id: id, Parent: parent, Name: name, Dir: true}
}

// file is a file, whether it may be or not.
func file(id, parent uint32, name string, size uint32) api.Inode {
	return api.Inode{Id: id, Parent: parent, Name: name, Size: size}
}

// entry is what lies at a path.
type entry struct {
	id, size uint32
	dir      bool
}

// telling is a second telling of a tree: by paths, without Parents. The root is at "/".
type telling map[string]entry

// nameForm and pathForm are what names and paths look like, but for "." and "..".
var (
	nameForm = regexp.MustCompile(`\A[a-z0-9._\-]{1,8}\z`)
	pathForm = regexp.MustCompile(`\A(/|(/[a-z0-9._\-]{1,8}){1,6})\z`)
)

// isName is a reading of the chapter's definition of a name.
func isName(s string) bool { return nameForm.MatchString(s) && s != "." && s != ".." }

// isPath is a reading of its definition of a path.
func isPath(s string) bool {
	return pathForm.MatchString(s) && !strings.Contains(s+"/", "/./") && !strings.Contains(s+"/", "/../")
}

// pieces are the names of a path that is one.
func pieces(s string) []string {
	return strings.FieldsFunc(s, func(r rune) bool { return r == '/' })
}

// under is the path of a name in a directory.
func under(dir, name string) string {
	if dir == "/" {
		return "/" + name
	}
	return dir + "/" + name
}

// told is a reading of the chapter's definition of a tree: its directories are looked into from the root on, step by step.
func told(l []api.Inode) (telling, bool) {
	if len(l) == 0 || len(l) > 40 || l[0] != top {
		return nil, false
	}
	for i := 1; i < len(l); i++ {
		if l[i].Id <= l[i-1].Id || !isName(l[i].Name) || l[i].Size > 1024 || l[i].Dir && l[i].Size != 0 {
			return nil, false
		}
	}
	x := telling{"/": {id: 1, dir: true}}
	near := map[uint32]string{1: "/"}
	for range 6 {
		far := map[uint32]string{}
		for _, n := range l[1:] {
			dir, ok := near[n.Parent]
			if !ok {
				continue
			}
			at := under(dir, n.Name)
			if _, twice := x[at]; twice {
				return nil, false
			}
			x[at] = entry{n.Id, n.Size, n.Dir}
			if n.Dir {
				far[n.Id] = at
			}
		}
		near = far
	}
	for at := range x {
		if len(x.in(at)) > 12 {
			return nil, false
		}
	}
	return x, len(x) == len(l)
}

// list is the list of a telling.
func (x telling) list() []api.Inode {
	l := []api.Inode{top}
	for at, e := range x {
		if at != "/" {
			l = append(l, api.Inode{Id: e.id, Parent: x[path.Dir(at)].id, Name: path.Base(at), Dir: e.dir, Size: e.size})
		}
	}
	slices.SortFunc(l, func(a, b api.Inode) int { return int(int64(a.Id) - int64(b.Id)) })
	return l
}

// in are the names in a directory, rising.
func (x telling) in(dir string) []string {
	var l []string
	for at := range x {
		if at != "/" && path.Dir(at) == dir {
			l = append(l, path.Base(at))
		}
	}
	slices.Sort(l)
	return l
}

// has says whether an inode has this number.
func (x telling) has(id uint32) bool {
	for _, e := range x {
		if e.id == id {
			return true
		}
	}
	return false
}

// walk is what lies at a path, or the error of walking it.
func (x telling) walk(to string) (entry, api.Errno) {
	here, at := x["/"], "/"
	for _, name := range pieces(to) {
		if !here.dir {
			return entry{}, api.ErrNotDir
		}
		at = under(at, name)
		e, ok := x[at]
		if !ok {
			return entry{}, api.ErrNone
		}
		here = e
	}
	return here, api.OK
}

// before is the error of walking a path without its last name, to a directory.
func (x telling) before(to string) api.Errno {
	if to == "/" {
		return api.ErrThere
	}
	e, err := x.walk(path.Dir(to))
	if err == api.OK && !e.dir {
		return api.ErrNotDir
	}
	return err
}

// made is a reading of Make.
func (x telling) made(at string, id uint32, dir bool) (telling, api.Errno) {
	if !isPath(at) {
		return nil, api.ErrName
	}
	if err := x.before(at); err != api.OK {
		return nil, err
	}
	if _, there := x[at]; there {
		return nil, api.ErrThere
	}
	if len(x) >= 40 || len(x.in(path.Dir(at))) >= 12 {
		return nil, api.ErrMany
	}
	if id <= 1 || x.has(id) {
		return nil, api.ErrArg
	}
	y := maps.Clone(x)
	y[at] = entry{id: id, dir: dir}
	return y, api.OK
}

// removed is a reading of Remove.
func (x telling) removed(at string, dir bool) (telling, entry, api.Errno) {
	if !isPath(at) {
		return nil, entry{}, api.ErrName
	}
	e, err := x.walk(at)
	if err != api.OK {
		return nil, entry{}, err
	}
	if at == "/" {
		return nil, entry{}, api.ErrBusy
	}
	if dir && !e.dir {
		return nil, entry{}, api.ErrNotDir
	}
	if dir && len(x.in(at)) > 0 {
		return nil, entry{}, api.ErrEmpty
	}
	if !dir && e.dir {
		return nil, entry{}, api.ErrIsDir
	}
	y := maps.Clone(x)
	delete(y, at)
	return y, e, api.OK
}

// resized is a reading of Resize.
func (x telling) resized(id, size uint32) (telling, api.Errno) {
	for at, e := range x {
		if e.id != id {
			continue
		}
		if e.dir {
			return nil, api.ErrIsDir
		}
		if size > 1024 {
			return nil, api.ErrBig
		}
		y := maps.Clone(x)
		y[at] = entry{id: id, size: size}
		return y, api.OK
	}
	return nil, api.ErrNone
}

// renamed is a reading of Rename.
func (x telling) renamed(from, to string) (telling, api.Errno) {
	if !isPath(from) || !isPath(to) {
		return nil, api.ErrName
	}
	if _, err := x.walk(from); err != api.OK {
		return nil, err
	}
	if from == "/" {
		return nil, api.ErrBusy
	}
	if err := x.before(to); err != api.OK {
		return nil, err
	}
	if strings.HasPrefix(path.Dir(to)+"/", from+"/") {
		return nil, api.ErrArg
	}
	if _, there := x[to]; there && from == to {
		return x, api.OK
	} else if there {
		return nil, api.ErrThere
	}
	if path.Dir(from) != path.Dir(to) && len(x.in(path.Dir(to))) >= 12 {
		return nil, api.ErrMany
	}
	y := telling{}
	for at, e := range x {
		if rest, ok := strings.CutPrefix(at+"/", from+"/"); ok {
			at = strings.TrimSuffix(to+"/"+rest, "/")
		}
		if len(pieces(at)) > 6 {
			return nil, api.ErrName
		}
		y[at] = e
	}
	return y, api.OK
}

// grown is a list, by lines: "2 /a/" is a directory with the number 2, "3 /a/b 5" a file of 5 bytes in it. A directory's line comes ahead of those inside it.
func grown(lines ...string) []api.Inode {
	x := telling{"/": {id: 1, dir: true}}
	for _, line := range lines {
		var e entry
		var at string
		fmt.Sscan(line, &e.id, &at, &e.size)
		e.dir = strings.HasSuffix(at, "/")
		x[strings.TrimSuffix(at, "/")] = e
	}
	return x.list()
}

// crowd are directories, or files, with numbers from first on, in a directory.
func crowd(first, parent uint32, n int, dir bool) []api.Inode {
	var l []api.Inode
	for i := range n {
		l = append(l, api.Inode{Id: first + uint32(i), Parent: parent, Name: fmt.Sprintf("k%d", i), Dir: dir})
	}
	return l
}

// joined is one list of several, behind the root.
func joined(l ...[]api.Inode) []api.Inode {
	return slices.Concat(append([][]api.Inode{{top}}, l...)...)
}

// fullest is a tree of 40 inodes: 12 directories k0 to k11 (2 to 13) in the root, 12 files in k0, 12 directories in k1, and 3 files in k2.
func fullest() []api.Inode {
	return joined(crowd(2, 1, 12, true), crowd(14, 2, 12, false), crowd(26, 3, 12, true), crowd(38, 4, 3, false))
}

// deepest is a tree with paths of 6 names: /a to /a/b/c/d/e are directories, and in the last one are a directory and a file.
func deepest() []api.Inode {
	return grown("2 /a/", "3 /a/b/", "4 /a/b/c/", "5 /a/b/c/d/", "6 /a/b/c/d/e/", "7 /a/b/c/d/e/f/", "8 /a/b/c/d/e/g 1024")
}

// mixed is a tree of several depths, whose numbers neither rise with the depth nor follow each other, in which a name is in several directories.
func mixed() []api.Inode {
	return grown("90 /d/", "2 /d/a 1", "4294967295 /d/d/", "70 /d/d/d/", "3 /d/d/d/a 1024", "5 /d/d/b 7", "60 /a 0", "61 /e/", "9 /x/", "8 /x/y/", "7 /x/y/z/", "4294967294 /f 33")
}

// crowded is a tree in which /d has 12 names, with room in the root and in the tree.
func crowded() []api.Inode {
	return joined([]api.Inode{folder(2, 1, "d"), file(3, 1, "f", 9), folder(4, 1, "e")}, crowd(5, 2, 12, false), []api.Inode{folder(17, 4, "s"), file(18, 17, "t", 4)})
}

// signed is a tree with names of 1 and of 8 bytes, of each kind of sign that a name may have.
func signed() []api.Inode {
	return joined(
		[]api.Inode{folder(2, 1, "a"), folder(3, 1, "z"), file(4, 1, "0", 0), file(5, 1, "9", 0), file(6, 1, "_", 0), file(7, 1, "-", 0), folder(8, 1, "...")},
		[]api.Inode{file(9, 2, "abcdefgh", 1), file(10, 2, "zzzzzzzz", 2), file(11, 2, "01234567", 3), file(12, 2, "........", 4), file(13, 2, "________", 5), file(14, 2, "--------", 6), file(15, 2, "a.9_-z..", 7), file(16, 2, ".a", 8), file(17, 2, "..a", 9), file(18, 2, "a.", 10)},
	)
}

// trees are lists that are trees.
func trees() map[string][]api.Inode {
	return map[string][]api.Inode{
		"the root alone":        {top},
		"of a file":             grown("2 /a 0"),
		"of an empty directory": grown("4294967295 /a/"),
		"the example":           grown("2 /a/", "3 /a/b 0"),
		"the fullest":           fullest(),
		"nearly the fullest":    fullest()[:39],
		"the deepest":           deepest(),
		"the mixed one":         mixed(),
		"the crowded one":       crowded(),
		"nearly crowded":        joined(crowd(2, 1, 11, true), crowd(13, 2, 11, false)),
		"a crowded root":        joined(crowd(2, 1, 12, true)),
		"the signed one":        signed(),
		"sizes":                 grown("2 /a 0", "3 /b 1", "4 /c 1023", "5 /d 1024"),
		"two chains":            grown("2 /a/", "3 /a/b/", "4 /a/b/c/", "5 /u/", "6 /u/v/", "7 /u/v/w/", "8 /u/v/w/x 3", "9 /f 1"),
		"numbers that fall":     grown("9 /a/", "8 /a/b/", "7 /a/b/c/", "6 /a/b/c/d/", "5 /a/b/c/d/e/", "4 /a/b/c/d/e/f 2"),
	}
}

// sorted are these trees in one order, for random runs that are to be the same each time.
func sorted() [][]api.Inode {
	var l [][]api.Inode
	m := trees()
	for _, why := range slices.Sorted(maps.Keys(m)) {
		l = append(l, m[why])
	}
	return l
}

// changed is a copy of a list in which something is changed.
func changed(l []api.Inode, change func(l []api.Inode)) []api.Inode {
	l = slices.Clone(l)
	change(l)
	return l
}

// wrongNames are texts that are no names.
var wrongNames = []string{
	"", ".", "..", "A", "Z", "aB", "/", "a/b", "/a", "a/", " ", "a b", "\x00", "a\x00", "\n", "abcdefghi", "123456789", ".........", "_________", "abcdefgh\x00",
	"é", "ß", "a\u0301", "\x7f", "\x80", "\xff", "`", "{", "@", "[", ":", ",", "*", "~", "+", "\\", "^", "ａ", strings.Repeat("a", 1000),
}

// wrongLists are lists that are not trees, for each reason.
func wrongLists() map[string][]api.Inode {
	a, b := folder(2, 1, "a"), folder(3, 2, "b")
	chain := []api.Inode{a, b, folder(4, 3, "c"), folder(5, 4, "d"), folder(6, 5, "e"), folder(7, 6, "f")}
	m := map[string][]api.Inode{
		"nil": nil, "empty": {},
		"no root: a directory": {a}, "no root: a file": {file(2, 1, "a", 0)}, "no root: its own directory": {folder(2, 2, "a")}, "no root: two": {a, b}, "no root: another number": {folder(2, 0, "")},
		"the zero inode": {{}}, "two zero inodes": {{}, {}},
		"a root that is a file": {{Id: 1}}, "a root with a size": {{Id: 1, Dir: true, Size: 1}}, "a root with a name": {folder(1, 0, "a")}, "a root in itself": {folder(1, 1, "")}, "a root in another one": {folder(1, 2, ""), a}, "a root with the number 0": {folder(0, 0, "")},
		"a root with the number 0 and another one": {folder(0, 0, ""), top}, "a root that is a file, with a file": {{Id: 1}, file(2, 1, "a", 0)}, "a root with a size, with a file": {{Id: 1, Dir: true, Size: 1024}, file(2, 1, "a", 0)},
		"the root twice": {top, top}, "the root last": {a, top}, "the root's number twice": {top, folder(1, 1, "a")}, "an inode like the root": {top, folder(2, 0, "")},
		"not rising": {top, file(3, 1, "a", 0), file(2, 1, "b", 0)}, "falling at the end": {top, a, b, folder(5, 1, "c"), folder(4, 1, "d")}, "the number 0 behind the root": {top, file(0, 1, "a", 0)}, "rising but for the greatest": {top, file(math.MaxUint32, 1, "a", 0), file(2, 1, "b", 0)},
		"an Id twice": {top, file(2, 1, "a", 0), file(2, 1, "b", 0)}, "the same inode twice": {top, a, a}, "the greatest Id twice": {top, file(math.MaxUint32, 1, "a", 0), file(math.MaxUint32, 1, "b", 0)},
		"a Parent that is missing": {top, file(2, 3, "a", 0)}, "the Parent 0": {top, file(2, 0, "a", 0)}, "the greatest Parent": {top, file(2, math.MaxUint32, "a", 0)}, "a Parent that is missing, of one inside": {top, a, b, file(5, 4, "c", 0)}, "a Parent that is missing between two": {top, a, file(5, 4, "c", 0), file(7, 6, "d", 0)},
		"a Parent that is a file": {top, file(2, 1, "a", 0), file(3, 2, "b", 0)}, "a Parent that is a file, of a directory": {top, a, file(3, 2, "b", 0), folder(4, 3, "c")}, "a Parent that is a file behind it": {top, file(2, 3, "a", 0), file(3, 1, "b", 0)}, "a directory in a file, and one inside it": {top, file(2, 1, "a", 0), folder(3, 2, "b"), file(4, 3, "c", 0)},
		"an inode in itself": {top, folder(2, 2, "a")}, "a file in itself": {top, file(2, 2, "a", 0)}, "Parents that go round": {top, folder(2, 3, "a"), folder(3, 2, "b")}, "a round of three": {top, folder(2, 4, "a"), folder(3, 2, "b"), folder(4, 3, "c")}, "a file on a round": {top, folder(2, 3, "a"), folder(3, 2, "b"), file(4, 2, "c", 0)}, "a round beside what is right": {top, a, b, folder(4, 5, "c"), folder(5, 4, "d")},
		"a directory too deep": joined(chain, []api.Inode{folder(8, 7, "g")}), "a file too deep": joined(chain, []api.Inode{file(8, 7, "g", 0)}), "two steps too deep": joined(chain, []api.Inode{folder(8, 7, "g"), file(9, 8, "h", 0)}),
		"too deep, with numbers that fall":      {top, file(2, 3, "a", 0), folder(3, 4, "b"), folder(4, 5, "c"), folder(5, 6, "d"), folder(6, 7, "e"), folder(7, 8, "f"), folder(8, 1, "g")},
		"a name twice in the root":              {top, a, folder(3, 1, "a")},
		"a name twice, of a file":               {top, a, file(3, 1, "a", 0)},
		"a name twice in a directory":           {top, a, file(3, 2, "x", 0), file(4, 1, "x", 0), file(5, 2, "x", 0)},
		"a name twice, deep":                    joined(chain[:5], []api.Inode{file(8, 6, "x", 0), folder(9, 6, "x")}),
		"a name twice, ahead of the directory":  {top, file(2, 9, "x", 0), file(3, 9, "x", 0), folder(9, 1, "a")},
		"a directory with a size":               {top, {Id: 2, Parent: 1, Name: "a", Dir: true, Size: 1}},
		"a directory with the greatest size":    {top, {Id: 2, Parent: 1, Name: "a", Dir: true, Size: 1024}},
		"a directory inside with a size":        {top, a, {Id: 3, Parent: 2, Name: "a", Dir: true, Size: 1}, b},
		"a file that is too long":               {top, file(2, 1, "a", 1025)},
		"a file of the greatest number of size": {top, a, file(3, 2, "a", math.MaxUint32)},
		"41 inodes":                             joined(fullest()[1:], []api.Inode{file(41, 4, "k3", 0)}),
		"41 inodes in four directories":         joined(crowd(2, 1, 10, true), crowd(12, 2, 10, false), crowd(22, 3, 10, false), crowd(32, 4, 10, false)),
		"13 in the root":                        joined(crowd(2, 1, 13, false)),
		"13 directories in the root":            joined(crowd(2, 1, 13, true)),
		"13 in a directory":                     joined([]api.Inode{a}, crowd(3, 2, 13, false)),
		"13 in a directory behind them":         joined(crowd(2, 99, 13, false), []api.Inode{folder(99, 1, "a")}),
		"very many":                             joined(crowd(2, 1, 100000, false)),
	}
	for i, s := range wrongNames {
		m[fmt.Sprintf("the name %d that is none", i)] = []api.Inode{top, a, file(4, 2, s, 0)}
		m[fmt.Sprintf("a directory of the name %d that is none", i)] = []api.Inode{top, folder(2, 1, s), file(3, 2, "x", 0)}
	}
	return m
}

// wrongPaths are texts that are no paths.
func wrongPaths() []string {
	l := []string{
		"", "a", "a/b", "abc", "a/", "//", "///", "/a/", "/a//b", "//a", "/a/b/", " ", " /", " /a", "/ ", "/a ", "\x00", "\x00/a", "\\", ".", "..", "./a", "../a",
		"/.", "/..", "/./a", "/../a", "/a/.", "/a/..", "/a/./b", "/a/../b", "/a/b/c/d/e/.", "/a/b/c/d/e/..",
		"/abcdefghi", "/a/123456789", "/abcdefghi/a", "/a/b/c/d/e/abcdefghi", "/.........", "/A", "/a/B", "/aB", "/a/bC/d", "/a\nb", "/a\n", "/é", "/a/ß",
		"/a/b/c/d/e/f/g", "/1/2/3/4/5/6/7", "/a/b/c/d/e/f/", "/a/b/c/d/e/f//", "/a/b/c/d/e/f/.", "/a/a/a/a/a/a/a/a/a/a", "//////", "///////", "////////",
		"/aaaaaaaa/bbbbbbbb/cccccccc/dddddddd/eeeeeeee/ffffffff/g", "/aaaaaaaa/bbbbbbbb/cccccccc/dddddddd/eeeeeeee/fffffffff",
		strings.Repeat("/", 100000), strings.Repeat("/a", 100000), strings.Repeat("a", 100000), "/" + strings.Repeat("a", 100000),
	}
	for _, s := range wrongNames {
		l = append(l, "/"+s+"/", "/a//"+s)
		if s != "" && !strings.Contains(s, "/") {
			l = append(l, "/"+s, "/a/"+s, "/"+s+"/a", "/a/b/c/d/e/"+s)
		}
	}
	return l
}

// rightPaths are paths.
var rightPaths = []string{
	"/", "/a", "/z", "/0", "/9", "/.a", "/_", "/-", "/...", "/a.", "/..a", "/a/b", "/a/a/a/a/a/a", "/a/b/c/d/e/f", "/1/2/3/4/5", "/abcdefgh", "/........", "/--------/________",
	"/aaaaaaaa/bbbbbbbb/cccccccc/dddddddd/eeeeeeee/ffffffff", "/a/bb/ccc/dddd/eeeee/ffffff", "/.../.../...", "/-/_/.-/_./0/9",
}

// spots are the paths of a tree, and such as lead beside it: to what isn't there, over files, over "/", and over 6 names.
func spots(x telling) []string {
	m := map[string]bool{"": true, "a": true, "/A": true, "/abcdefghi": true, "/a/": true, "/q/r": true, "/q/r/s": true, "/1/2/3/4/5/6": true}
	for at := range x {
		m[at], m[under(at, "q")], m[under(under(at, "q"), "r")], m[under(at, "a")] = true, true, true, true
	}
	return slices.Sorted(maps.Keys(m))
}

// is fails unless a list is a tree and is this telling.
func is(t *testing.T, l []api.Inode, want telling, format string, a ...any) {
	t.Helper()
	x, ok := told(l)
	if !ok || !maps.Equal(x, want) {
		t.Errorf(format+" = %v, want %v", append(a, l, want.list())...)
	}
}

// fails fails unless an answer is this error and no list.
func fails(t *testing.T, l []api.Inode, err, want api.Errno, format string, a ...any) {
	t.Helper()
	if err != want || len(l) != 0 {
		t.Errorf(format+" = %v, %d, want error %d", append(a, l, err, want)...)
	}
}

// answers fails unless an answer is the one of a reading.
func answers(t *testing.T, l []api.Inode, err api.Errno, want telling, e api.Errno, format string, a ...any) {
	t.Helper()
	if e != api.OK || err != api.OK {
		fails(t, l, err, e, format, a...)
		return
	}
	is(t, l, want, format, a...)
}

// made, removed, renamed and resized are the results of calls that must do what they are asked.
func made(t *testing.T, l []api.Inode, at string, id uint32, dir bool) []api.Inode {
	t.Helper()
	now, err := Make(l, at, id, dir)
	if err != api.OK {
		t.Fatalf("Make of %q, %d: error %d", at, id, err)
	}
	return now
}

func removed(t *testing.T, l []api.Inode, at string, dir bool) []api.Inode {
	t.Helper()
	now, _, err := Remove(l, at, dir)
	if err != api.OK {
		t.Fatalf("Remove of %q, %v: error %d", at, dir, err)
	}
	return now
}

func renamed(t *testing.T, l []api.Inode, from, to string) []api.Inode {
	t.Helper()
	now, err := Rename(l, from, to)
	if err != api.OK {
		t.Fatalf("Rename of %q to %q: error %d", from, to, err)
	}
	return now
}

func resized(t *testing.T, l []api.Inode, id, size uint32) []api.Inode {
	t.Helper()
	now, err := Resize(l, id, size)
	if err != api.OK {
		t.Fatalf("Resize of %d to %d: error %d", id, size, err)
	}
	return now
}

// found fails unless a path leads to this inode.
func found(t *testing.T, l []api.Inode, at string, want api.Inode) {
	t.Helper()
	if n, err := Find(l, at); n != want || err != api.OK {
		t.Errorf("Find of %q = %v, %d, want %v", at, n, err, want)
	}
}

// lost fails unless a path leads nowhere.
func lost(t *testing.T, l []api.Inode, at string, want api.Errno) {
	t.Helper()
	if n, err := Find(l, at); n != (api.Inode{}) || err != want {
		t.Errorf("Find of %q = %v, %d, want error %d", at, n, err, want)
	}
}

func TestTheExamples(t *testing.T) {
	l := made(t, made(t, []api.Inode{{Id: 1, Dir: true}}, "/a", 2, true), "/a/b", 3, false)
	found(t, l, "/a/b", api.Inode{Id: 3, Parent: 2, Name: "b"})
	now, err := Rename(l, "/a", "/a/c")
	fails(t, now, err, api.ErrArg, "Rename of a directory into itself")
	found(t, renamed(t, l, "/a", "/d"), "/d/b", api.Inode{Id: 3, Parent: 2, Name: "b"})
}

// P10.1: Right.

func TestTrees(t *testing.T) {
	for why, l := range trees() {
		if _, ok := told(l); !ok || !Right(l) {
			t.Errorf("%s: Right = %v, and the reading says %v: want true", why, Right(l), ok)
		}
	}
}

func TestListsThatAreNoTrees(t *testing.T) {
	for why, l := range wrongLists() {
		if _, ok := told(l); ok || Right(l) {
			t.Errorf("%s: Right = %v, and the reading says %v: want false", why, Right(l), ok)
		}
	}
}

func TestTheRootHasNothingElse(t *testing.T) {
	for _, r := range []api.Inode{{Id: 0, Dir: true}, {Id: 2, Dir: true}, {Id: 1, Parent: 1, Dir: true}, {Id: 1, Name: "a", Dir: true}, {Id: 1, Name: "/", Dir: true}, {Id: 1}, {Id: 1, Dir: true, Size: 1}, {Id: math.MaxUint32, Dir: true}} {
		for why, l := range trees() {
			if Right(changed(l, func(l []api.Inode) { l[0] = r })) {
				t.Errorf("%s with the root %v: Right = true, want false", why, r)
			}
		}
	}
}

func TestNamesOfInodesByteByByte(t *testing.T) {
	for b := range 256 {
		c := string([]byte{byte(b)})
		for _, s := range []string{c, c + "a", "a" + c, "abc" + c + "def", c + "bcdefgh", "abcdefg" + c} {
			l := []api.Inode{top, folder(2, 1, "a"), file(3, 2, s, 0)}
			if Right(l) != isName(s) {
				t.Errorf("Right with the name %q = %v, want %v", s, Right(l), isName(s))
			}
		}
	}
}

func TestLengthsOfNames(t *testing.T) {
	for _, c := range []string{"a", "z", "0", "9", "_", "-", "."} {
		for n := range 20 {
			s := strings.Repeat(c, n)
			want := n >= 1 && n <= 8 && s != "." && s != ".."
			if Right([]api.Inode{top, file(2, 1, s, 0)}) != want {
				t.Errorf("Right with the name %q: want %v", s, want)
			}
		}
	}
}

func TestSizesOfInodes(t *testing.T) {
	for _, size := range []uint32{0, 1, 2, 1023, 1024, 1025, 2048, 1 << 16, 1 << 31, math.MaxUint32} {
		if got := Right([]api.Inode{top, file(2, 1, "a", size)}); got != (size <= 1024) {
			t.Errorf("Right with a file of %d bytes = %v", size, got)
		}
		n := folder(2, 1, "a")
		n.Size = size
		if got := Right([]api.Inode{top, n}); got != (size == 0) {
			t.Errorf("Right with a directory of the size %d = %v", size, got)
		}
	}
}

func TestNumbersOfInodesAndOfKids(t *testing.T) {
	for n := range 60 {
		if got := Right(joined(crowd(2, 1, n, n%2 == 0))); got != (n <= 12) {
			t.Errorf("Right with %d in the root = %v", n, got)
		}
		if got := Right(joined([]api.Inode{folder(2, 1, "a")}, crowd(3, 2, n, n%2 == 0))); got != (n <= 12) {
			t.Errorf("Right with %d in a directory = %v", n, got)
		}
		// Fives of files in a directory each, so that no directory is too full.
		var l []api.Inode
		for i := range n {
			l = append(l, file(uint32(100+i), uint32(2+i/5), fmt.Sprintf("f%d", i), 0))
		}
		if got := Right(joined(crowd(2, 1, 12, true), l)); got != (n+13 <= 40) {
			t.Errorf("Right with %d inodes = %v", n+13, got)
		}
	}
}

func TestDepths(t *testing.T) {
	for n := 1; n <= 39; n++ {
		down, up := []api.Inode{top}, []api.Inode{top}
		for i := range n {
			down = append(down, folder(uint32(i+2), uint32(i+1), "a"))
			up = append(up, folder(uint32(i+2), uint32(i+3), "a"))
		}
		up[n].Parent = 1
		down[n].Dir = n%2 == 0
		if Right(down) != (n <= 6) || Right(up) != (n <= 6) {
			t.Errorf("Right with %d steps to the root = %v, with numbers that fall %v", n, Right(down), Right(up))
		}
	}
}

func TestIdsOfTrees(t *testing.T) {
	for _, id := range []uint32{2, 3, 255, 256, 1 << 16, 1<<31 - 1, 1 << 31, math.MaxUint32 - 1, math.MaxUint32} {
		if !Right([]api.Inode{top, folder(id, 1, "a")}) {
			t.Errorf("Right with the Id %d = false", id)
		}
		if l := []api.Inode{top, file(id-1, 1, "a", 0), file(id, 1, "b", 0)}; Right(l) != (id > 2) {
			t.Errorf("Right with the Ids %d and %d = %v", id-1, id, Right(l))
		}
	}
}

// shaken is a list that is a tree, or one that had been one ahead of a change or two.
func shaken(r *rand.Rand, l []api.Inode) []api.Inode {
	l = slices.Clone(l)
	ids := []uint32{0, 1, 2, 3, 4, 5, 8, 13, 14, 20, 90, math.MaxUint32}
	names := []string{"a", "b", "k0", "k1", "q", "abcdefgh", "abcdefghi", "", ".", "..", "...", "A"}
	for range r.Intn(3) {
		n := &l[r.Intn(len(l))]
		switch r.Intn(8) {
		case 0:
			n.Id = ids[r.Intn(len(ids))]
		case 1, 2:
			n.Parent = l[r.Intn(len(l))].Id
		case 3:
			n.Parent = ids[r.Intn(len(ids))]
		case 4:
			n.Name = names[r.Intn(len(names))]
		case 5:
			n.Dir = !n.Dir
		case 6:
			n.Size = []uint32{0, 1, 1024, 1025, math.MaxUint32}[r.Intn(5)]
		case 7:
			i, j := r.Intn(len(l)), r.Intn(len(l))
			l[i], l[j] = l[j], l[i]
		}
	}
	return l
}

func TestRandomLists(t *testing.T) {
	r := rand.New(rand.NewSource(1))
	all := sorted()
	seen := map[bool]int{}
	for range 30000 {
		l := shaken(r, all[r.Intn(len(all))])
		_, want := told(l)
		if Right(l) != want {
			t.Fatalf("Right of %v = %v, want %v", l, Right(l), want)
		}
		seen[want]++
	}
	if seen[true] < 3000 || seen[false] < 3000 {
		t.Errorf("the lists are one-sided: %v", seen)
	}
}

// P10.1: Split.

func TestSplitOfPaths(t *testing.T) {
	for _, s := range rightPaths {
		names, err := Split(s)
		if err != api.OK || !slices.Equal(names, pieces(s)) {
			t.Errorf("Split of %q = %q, %d", s, names, err)
		}
	}
	if names, err := Split("/a/bb/c.c"); err != api.OK || !slices.Equal(names, []string{"a", "bb", "c.c"}) {
		t.Errorf("Split of three names = %q, %d", names, err)
	}
	if names, err := Split("/"); err != api.OK || len(names) != 0 {
		t.Errorf("Split of the root's path = %q, %d", names, err)
	}
}

func TestSplitOfWhatIsNoPath(t *testing.T) {
	for _, s := range wrongPaths() {
		if names, err := Split(s); err != api.ErrName || len(names) != 0 || isPath(s) {
			t.Errorf("Split of %.80q = %q, %d", s, names, err)
		}
	}
}

func TestSplitByteByByte(t *testing.T) {
	for b := range 256 {
		c := string([]byte{byte(b)})
		for _, s := range []string{c, "/" + c, c + "/a", "/a" + c, "/a" + c + "b", "/a/" + c, "/" + c + "/b", "/abcdefg" + c, "/" + c + "bcdefgh", "/a/b/c/d/e/f" + c, "/a/b/c/d/e/" + c} {
			names, err := Split(s)
			if isPath(s) && (err != api.OK || !slices.Equal(names, pieces(s))) || !isPath(s) && (err != api.ErrName || len(names) != 0) {
				t.Errorf("Split of %q = %q, %d", s, names, err)
			}
		}
	}
}

func TestSplitOfManyNames(t *testing.T) {
	for n := 1; n < 12; n++ {
		for _, name := range []string{"a", "abcdefgh", "abcdefghi", "..."} {
			s := strings.Repeat("/"+name, n)
			names, err := Split(s)
			ok := n <= 6 && len(name) <= 8
			if ok && (err != api.OK || len(names) != n || slices.ContainsFunc(names, func(x string) bool { return x != name })) || !ok && (err != api.ErrName || len(names) != 0) {
				t.Errorf("Split of %q = %q, %d", s, names, err)
			}
		}
	}
}

func TestSplitOfRandomTexts(t *testing.T) {
	r := rand.New(rand.NewSource(2))
	seen := map[bool]int{}
	for range 100000 {
		var b strings.Builder
		for range r.Intn(24) {
			b.WriteByte("///////ab.._-09Az \x00"[r.Intn(19)])
		}
		s := b.String()
		if r.Intn(2) == 0 {
			s = "/" + strings.TrimLeft(s, "/")
		}
		names, err := Split(s)
		seen[isPath(s)]++
		if isPath(s) && (err != api.OK || !slices.Equal(names, pieces(s))) || !isPath(s) && (err != api.ErrName || len(names) != 0) {
			t.Fatalf("Split of %q = %q, %d", s, names, err)
		}
	}
	if seen[true] < 2000 {
		t.Errorf("only %d of the texts are paths", seen[true])
	}
}

// P10.1: Find, Get, List.

func TestFindOfEachInode(t *testing.T) {
	for _, l := range trees() {
		x, _ := told(l)
		for at, e := range x {
			n, err := Find(l, at)
			if err != api.OK || n.Id != e.id || n.Dir != e.dir || n.Size != e.size || !slices.Contains(l, n) {
				t.Errorf("Find of %q in %v = %v, %d", at, l, n, err)
			}
		}
	}
}

func TestFindAgainstAReading(t *testing.T) {
	for _, l := range trees() {
		x, _ := told(l)
		for _, at := range spots(x) {
			n, err := Find(l, at)
			e, want := x.walk(at)
			if !isPath(at) {
				e, want = entry{}, api.ErrName
			}
			if err != want || n.Id != e.id || err != api.OK && n != (api.Inode{}) {
				t.Errorf("Find of %q in %v = %v, %d, want %v, %d", at, l, n, err, e, want)
			}
		}
	}
}

func TestFind(t *testing.T) {
	l := mixed()
	found(t, l, "/", top)
	found(t, l, "/d", folder(90, 1, "d"))
	found(t, l, "/d/d", folder(math.MaxUint32, 90, "d"))
	found(t, l, "/d/d/d/a", file(3, 70, "a", 1024))
	found(t, l, "/a", file(60, 1, "a", 0))
	found(t, deepest(), "/a/b/c/d/e/g", file(8, 6, "g", 1024))
	found(t, deepest(), "/a/b/c/d/e/f", folder(7, 6, "f"))
	found(t, signed(), "/a/a.9_-z..", file(15, 2, "a.9_-z..", 7))
	found(t, signed(), "/...", folder(8, 1, "..."))
	lost(t, l, "/b", api.ErrNone)
	lost(t, l, "/d/e", api.ErrNone)
	lost(t, l, "/x/y/z/a", api.ErrNone)
	lost(t, []api.Inode{top}, "/a", api.ErrNone)
	lost(t, l, "/a/b", api.ErrNotDir)
	lost(t, l, "/a/a", api.ErrNotDir)
	lost(t, l, "/d/a/a/a", api.ErrNotDir)
	lost(t, deepest(), "/a/b/c/d/e/h", api.ErrNone)
}

func TestWhichErrorOfWalkingComesFirst(t *testing.T) {
	l := mixed()
	// Behind a file nothing is looked for, and behind what isn't there neither.
	lost(t, l, "/a/q", api.ErrNotDir)
	lost(t, l, "/a/q/r/s", api.ErrNotDir)
	lost(t, l, "/d/a/q", api.ErrNotDir)
	lost(t, l, "/q/a", api.ErrNone)
	lost(t, l, "/q/a/b", api.ErrNone)
	lost(t, l, "/d/q/a/b", api.ErrNone)
	lost(t, l, "/d/d/b/d/d/d", api.ErrNotDir)
	// What is no path is not walked.
	lost(t, l, "/a/q/A", api.ErrName)
	lost(t, l, "/q/..", api.ErrName)
	lost(t, l, "/q/1/2/3/4/5/6", api.ErrName)
	lost(t, l, "/a/", api.ErrName)
	lost(t, l, "/d/", api.ErrName)
}

func TestGet(t *testing.T) {
	for why, l := range trees() {
		for _, n := range l {
			if got, ok := Get(l, n.Id); got != n || !ok {
				t.Errorf("%s: Get of %d = %v, %v", why, n.Id, got, ok)
			}
			for _, id := range []uint32{0, n.Id - 1, n.Id + 1, n.Id + 1<<31, math.MaxUint32, 1000} {
				i := slices.IndexFunc(l, func(n api.Inode) bool { return n.Id == id })
				got, ok := Get(l, id)
				if ok != (i >= 0) || ok && got != l[i] || !ok && got != (api.Inode{}) {
					t.Errorf("%s: Get of %d = %v, %v", why, id, got, ok)
				}
			}
		}
	}
}

func TestListOfEachDirectory(t *testing.T) {
	for _, l := range trees() {
		x, _ := told(l)
		for _, at := range spots(x) {
			names, err := List(l, at)
			e, want := x.walk(at)
			switch {
			case !isPath(at):
				want = api.ErrName
			case want == api.OK && !e.dir:
				want = api.ErrNotDir
			}
			var kids []string
			if want == api.OK {
				kids = x.in(at)
			}
			if err != want || !slices.Equal(names, kids) {
				t.Errorf("List of %q in %v = %q, %d, want %q, %d", at, l, names, err, kids, want)
			}
		}
	}
}

func TestList(t *testing.T) {
	l := joined([]api.Inode{file(2, 1, "z", 0), folder(3, 1, "-"), file(4, 1, "a", 0), file(5, 1, "10", 0), file(6, 1, "9", 0), file(7, 1, "_", 0), file(8, 1, "aa", 0), file(9, 1, ".a", 0), folder(10, 1, "a.b"), file(11, 10, "b", 0), file(12, 10, "a", 0)})
	for at, want := range map[string][]string{
		"/":    {"-", ".a", "10", "9", "_", "a", "a.b", "aa", "z"},
		"/-":   nil,
		"/a.b": {"a", "b"},
	} {
		if names, err := List(l, at); err != api.OK || !slices.Equal(names, want) {
			t.Errorf("List of %q = %q, %d, want %q", at, names, err, want)
		}
	}
	if names, err := List([]api.Inode{top}, "/"); err != api.OK || len(names) != 0 {
		t.Errorf("List of the root alone = %q, %d", names, err)
	}
	want := []string{"k0", "k1", "k10", "k11", "k2", "k3", "k4", "k5", "k6", "k7", "k8", "k9"}
	if names, err := List(crowded(), "/d"); err != api.OK || !slices.Equal(names, want) {
		t.Errorf("List of a directory with 12 names = %q, %d", names, err)
	}
}

func TestErrorsOfList(t *testing.T) {
	for _, c := range []struct {
		why  string
		list []api.Inode
		at   string
		want api.Errno
	}{
		{"no tree", nil, "/", api.ErrArg},
		{"no tree, no path", nil, "", api.ErrArg},
		{"no tree, a file", []api.Inode{top, file(2, 1, "a", 1025)}, "/a", api.ErrArg},
		{"no path", mixed(), "d", api.ErrName},
		{"no path, over a file", mixed(), "/a/b/", api.ErrName},
		{"no path, what isn't there", mixed(), "/q/", api.ErrName},
		{"what isn't there", mixed(), "/q", api.ErrNone},
		{"what isn't there, in a directory", mixed(), "/d/q", api.ErrNone},
		{"over a file", mixed(), "/a/a", api.ErrNotDir},
		{"over what isn't there", mixed(), "/q/a", api.ErrNone},
		{"a file", mixed(), "/a", api.ErrNotDir},
		{"a file in a directory", mixed(), "/d/d/b", api.ErrNotDir},
	} {
		if names, err := List(c.list, c.at); err != c.want || len(names) != 0 {
			t.Errorf("%s: List of %q = %q, %d, want error %d", c.why, c.at, names, err, c.want)
		}
	}
}

// P10.2: Make.

func TestMake(t *testing.T) {
	l := made(t, []api.Inode{top}, "/b", 5, true)
	l = made(t, l, "/a", 9, false)
	l = made(t, l, "/b/a", 2, true)
	l = made(t, l, "/b/a/a", math.MaxUint32, false)
	l = made(t, l, "/c", 7, true)
	want := []api.Inode{top, folder(2, 5, "a"), folder(5, 1, "b"), folder(7, 1, "c"), file(9, 1, "a", 0), file(math.MaxUint32, 2, "a", 0)}
	if !slices.Equal(l, want) {
		t.Errorf("five were made: %v, want %v", l, want)
	}
}

func TestMakeAtTheEdges(t *testing.T) {
	l := made(t, fullest()[:39], "/k11/abcdefgh", 2000, true)
	if len(l) != 40 || !Right(l) {
		t.Errorf("the 40th inode is made: %v", l)
	}
	l = made(t, joined(crowd(2, 1, 11, true), crowd(13, 2, 11, false)), "/k11", 1000, false)
	l = made(t, l, "/k0/k11", 1001, true)
	for _, at := range []string{"/", "/k0"} {
		if names, _ := List(l, at); len(names) != 12 {
			t.Errorf("the 12th name is made: %q has %q", at, names)
		}
	}
	l = grown("2 /a/", "3 /a/b/", "4 /a/b/c/", "5 /a/b/c/d/", "6 /a/b/c/d/e/")
	is(t, made(t, l, "/a/b/c/d/e/f", 7, true), telling{"/": {1, 0, true}, "/a": {2, 0, true}, "/a/b": {3, 0, true}, "/a/b/c": {4, 0, true}, "/a/b/c/d": {5, 0, true}, "/a/b/c/d/e": {6, 0, true}, "/a/b/c/d/e/f": {7, 0, true}}, "Make of the sixth name")
	l = []api.Inode{top}
	for i, name := range []string{"a", "z", "0", "9", "_", "-", "abcdefgh", "........", "________", "--------", "01234567", "..."} {
		l = made(t, l, "/"+name, uint32(i+2), i%2 == 0)
		found(t, l, "/"+name, api.Inode{Id: uint32(i + 2), Parent: 1, Name: name, Dir: i%2 == 0})
	}
	for _, id := range []uint32{2, 3, 1 << 31, math.MaxUint32} {
		found(t, made(t, []api.Inode{top}, "/a", id, false), "/a", file(id, 1, "a", 0))
	}
}

// makeCase is a Make that fails: for the first of the reasons that are named.
type makeCase struct {
	why  string
	list []api.Inode
	at   string
	id   uint32
	want api.Errno
}

// makeCases are the errors of Make, alone and together.
func makeCases() []makeCase {
	full := fullest()
	wrong := []api.Inode{top, file(2, 1, "a", 1025)}
	return []makeCase{
		{"no tree", wrong, "/b", 3, api.ErrArg},
		{"no tree, no path", wrong, "b", 3, api.ErrArg},
		{"no tree, over a file", wrong, "/a/b/c", 3, api.ErrArg},
		{"no tree, the root", wrong, "/", 3, api.ErrArg},
		{"no tree, there", wrong, "/a", 3, api.ErrArg},
		{"no tree, full", joined(crowd(2, 1, 13, false)), "/a", 99, api.ErrArg},
		{"no path", mixed(), "/B", 1000, api.ErrName},
		{"no path, over a file", mixed(), "/a/b/", 1000, api.ErrName},
		{"no path, in a file", mixed(), "/a/B", 1000, api.ErrName},
		{"no path, over what isn't there", mixed(), "/q/r//", 1000, api.ErrName},
		{"no path, full", full, "/a/", 1000, api.ErrName},
		{"no path, a wrong number", mixed(), "", 0, api.ErrName},
		{"a path of 7 names", deepest(), "/a/b/c/d/e/f/g", 1000, api.ErrName},
		{"over a file", mixed(), "/a/b/c", 1000, api.ErrNotDir},
		{"over a file, full", full, "/k0/k0/a/b", 1000, api.ErrNotDir},
		{"over a file, a wrong number", mixed(), "/a/b/c", 1, api.ErrNotDir},
		{"over what isn't there", mixed(), "/q/r", 1000, api.ErrNone},
		{"over what isn't there, twice", mixed(), "/q/r/s", 1000, api.ErrNone},
		{"over what isn't there, full", full, "/q/r", 1000, api.ErrNone},
		{"over what isn't there, the directory is full", crowded(), "/d/q/r", 1000, api.ErrNone},
		{"over what isn't there, a wrong number", mixed(), "/q/r", 90, api.ErrNone},
		{"the root", mixed(), "/", 1000, api.ErrThere},
		{"the root, full", full, "/", 1000, api.ErrThere},
		{"the root, a wrong number", mixed(), "/", 0, api.ErrThere},
		{"the root alone", []api.Inode{top}, "/", 2, api.ErrThere},
		{"in a file", mixed(), "/a/b", 1000, api.ErrNotDir},
		{"in a file, of its own name", mixed(), "/a/a", 1000, api.ErrNotDir},
		{"in a file, full", full, "/k0/k0/a", 1000, api.ErrNotDir},
		{"in a file, a wrong number", mixed(), "/d/a/b", 60, api.ErrNotDir},
		{"there, a file", mixed(), "/a", 1000, api.ErrThere},
		{"there, a directory", mixed(), "/d/d", 1000, api.ErrThere},
		{"there, the tree is full", full, "/k2/k0", 1000, api.ErrThere},
		{"there, the directory is full", crowded(), "/d/k3", 1000, api.ErrThere},
		{"there, both are full", full, "/k0/k0", 1000, api.ErrThere},
		{"there, a wrong number", mixed(), "/d", 0, api.ErrThere},
		{"there, its own number", mixed(), "/d", 90, api.ErrThere},
		{"the tree is full", full, "/k2/a", 1000, api.ErrMany},
		{"the tree is full, the number is the root's", full, "/k2/a", 1, api.ErrMany},
		{"the tree is full, the number is taken", full, "/k5/a", 40, api.ErrMany},
		{"the directory is full", crowded(), "/d/a", 1000, api.ErrMany},
		{"the root is full", joined(crowd(2, 1, 12, false)), "/a", 1000, api.ErrMany},
		{"the directory is full, the number is 0", crowded(), "/d/a", 0, api.ErrMany},
		{"the directory is full, the number is taken", crowded(), "/d/a", 18, api.ErrMany},
		{"both are full", full, "/k0/a", 1000, api.ErrMany},
		{"the number 0", mixed(), "/q", 0, api.ErrArg},
		{"the root's number", mixed(), "/q", 1, api.ErrArg},
		{"the root's number in the root alone", []api.Inode{top}, "/q", 1, api.ErrArg},
		{"the number 0 in the root alone", []api.Inode{top}, "/q", 0, api.ErrArg},
		{"a number that is taken", mixed(), "/q", 60, api.ErrArg},
		{"the least number, taken", mixed(), "/x/q", 2, api.ErrArg},
		{"the greatest number, taken", mixed(), "/e/q", math.MaxUint32, api.ErrArg},
	}
}

func TestErrorsOfMake(t *testing.T) {
	for _, c := range makeCases() {
		for _, dir := range []bool{false, true} {
			l, err := Make(c.list, c.at, c.id, dir)
			fails(t, l, err, c.want, "%s: Make of %q, %d", c.why, c.at, c.id)
		}
	}
}

func TestMakeAgainstAReading(t *testing.T) {
	for why, l := range trees() {
		x, _ := told(l)
		ids := []uint32{0, 1, 2, l[len(l)/2].Id, l[len(l)-1].Id, 500, math.MaxUint32}
		for _, at := range spots(x) {
			for _, id := range ids {
				for _, dir := range []bool{false, true} {
					now, err := Make(l, at, id, dir)
					y, want := x.made(at, id, dir)
					answers(t, now, err, y, want, "%s: Make of %q, %d, %v", why, at, id, dir)
				}
			}
		}
	}
}

// P10.2: Remove.

func TestRemove(t *testing.T) {
	l := mixed()
	for _, c := range []struct {
		at   string
		dir  bool
		want api.Inode
	}{
		{"/a", false, file(60, 1, "a", 0)},
		{"/d/d/d/a", false, file(3, 70, "a", 1024)},
		{"/d/d/d", true, folder(70, math.MaxUint32, "d")},
		{"/x/y/z", true, folder(7, 8, "z")},
		{"/d/d/b", false, file(5, math.MaxUint32, "b", 7)},
		{"/d/d", true, folder(math.MaxUint32, 90, "d")},
		{"/f", false, file(math.MaxUint32-1, 1, "f", 33)},
	} {
		now, n, err := Remove(l, c.at, c.dir)
		if err != api.OK || n != c.want || len(now) != len(l)-1 || slices.Contains(now, n) {
			t.Fatalf("Remove of %q = %v, %v, %d, want the inode %v", c.at, now, n, err, c.want)
		}
		lost(t, now, c.at, api.ErrNone)
		l = now
	}
	want := []api.Inode{top, file(2, 90, "a", 1), folder(8, 9, "y"), folder(9, 1, "x"), folder(61, 1, "e"), folder(90, 1, "d")}
	if !slices.Equal(l, want) {
		t.Errorf("seven were removed: %v, want %v", l, want)
	}
}

func TestRemoveOfAllThereIs(t *testing.T) {
	for why, l := range trees() {
		for len(l) > 1 {
			// The deepest ones lie behind none that is in them.
			x, _ := told(l)
			at := slices.MaxFunc(slices.Collect(maps.Keys(x)), func(a, b string) int { return len(pieces(a)) - len(pieces(b)) })
			l = removed(t, l, at, x[at].dir)
		}
		if !slices.Equal(l, []api.Inode{top}) {
			t.Errorf("%s: all but the root is removed, but there is %v", why, l)
		}
	}
}

// removeCase is a Remove that fails.
type removeCase struct {
	why  string
	list []api.Inode
	at   string
	dir  bool
	want api.Errno
}

// removeCases are the errors of Remove, alone and together.
func removeCases() []removeCase {
	l, wrong := mixed(), []api.Inode{top, folder(2, 1, "a"), file(3, 2, "b", 1025)}
	return []removeCase{
		{"no tree", wrong, "/a/b", false, api.ErrArg},
		{"no tree, no path", wrong, "/a/b/", false, api.ErrArg},
		{"no tree, what isn't there", wrong, "/q", true, api.ErrArg},
		{"no tree, the root", wrong, "/", true, api.ErrArg},
		{"no tree, not empty", wrong, "/a", true, api.ErrArg},
		{"no tree, a directory", wrong, "/a", false, api.ErrArg},
		{"no tree, a file", wrong, "/a/b", true, api.ErrArg},
		{"no path", l, "/d/", true, api.ErrName},
		{"no path, a file", l, "a", true, api.ErrName},
		{"no path, over a file", l, "/a/b/", false, api.ErrName},
		{"no path, the root", l, "//", false, api.ErrName},
		{"no path, empty", l, "", true, api.ErrName},
		{"what isn't there, as a file", l, "/q", false, api.ErrNone},
		{"what isn't there, as a directory", l, "/d/q", true, api.ErrNone},
		{"over what isn't there", l, "/q/a", false, api.ErrNone},
		{"over a file", l, "/a/b", false, api.ErrNotDir},
		{"over a file, as a directory", l, "/a/b", true, api.ErrNotDir},
		{"over a file, to what isn't there", l, "/a/b/c", false, api.ErrNotDir},
		{"the root, not empty", l, "/", true, api.ErrBusy},
		{"the root, as a file", l, "/", false, api.ErrBusy},
		{"the root alone", []api.Inode{top}, "/", true, api.ErrBusy},
		{"the root alone, as a file", []api.Inode{top}, "/", false, api.ErrBusy},
		{"a file, as a directory", l, "/a", true, api.ErrNotDir},
		{"a file with bytes, as a directory", l, "/d/d/d/a", true, api.ErrNotDir},
		{"a directory with a file", l, "/d/d/d", true, api.ErrEmpty},
		{"a directory with a directory", l, "/x", true, api.ErrEmpty},
		{"a directory with both", l, "/d", true, api.ErrEmpty},
		{"a directory, as a file", l, "/e", false, api.ErrIsDir},
		{"a directory that is not empty, as a file", l, "/d", false, api.ErrIsDir},
	}
}

func TestErrorsOfRemove(t *testing.T) {
	for _, c := range removeCases() {
		l, n, err := Remove(c.list, c.at, c.dir)
		fails(t, l, err, c.want, "%s: Remove of %q, %v", c.why, c.at, c.dir)
		if n != (api.Inode{}) {
			t.Errorf("%s: Remove of %q, %v tells the inode %v", c.why, c.at, c.dir, n)
		}
	}
}

func TestRemoveAgainstAReading(t *testing.T) {
	for why, l := range trees() {
		x, _ := told(l)
		for _, at := range spots(x) {
			for _, dir := range []bool{false, true} {
				now, n, err := Remove(l, at, dir)
				y, e, want := x.removed(at, dir)
				answers(t, now, err, y, want, "%s: Remove of %q, %v", why, at, dir)
				if n.Id != e.id || n.Id != 0 && !slices.Contains(l, n) || n.Id == 0 && n != (api.Inode{}) {
					t.Errorf("%s: Remove of %q, %v tells the inode %v, want %v", why, at, dir, n, e)
				}
			}
		}
	}
}

// P10.2: Resize.

func TestResize(t *testing.T) {
	l := mixed()
	for _, id := range []uint32{60, 2, 3, 5, math.MaxUint32 - 1} {
		for _, size := range []uint32{0, 1, 7, 32, 1023, 1024, 0} {
			was, _ := Get(l, id)
			was.Size = size
			now := resized(t, l, id, size)
			i := slices.IndexFunc(l, func(n api.Inode) bool { return n.Id == id })
			if want := changed(l, func(l []api.Inode) { l[i] = was }); !slices.Equal(now, want) {
				t.Errorf("Resize of %d to %d = %v, want %v", id, size, now, want)
			}
			l = now
		}
	}
}

func TestErrorsOfResize(t *testing.T) {
	l, wrong := mixed(), []api.Inode{top, folder(2, 1, "a"), file(3, 2, "b", 1025)}
	for _, c := range []struct {
		why      string
		list     []api.Inode
		id, size uint32
		want     api.Errno
	}{
		{"no tree", wrong, 3, 0, api.ErrArg},
		{"no tree, no such number", wrong, 9, 0, api.ErrArg},
		{"no tree, a directory", wrong, 2, 0, api.ErrArg},
		{"no tree, too long", wrong, 3, 1025, api.ErrArg},
		{"no tree, the empty list", nil, 1, 0, api.ErrArg},
		{"no such number", l, 4, 0, api.ErrNone},
		{"no such number, 0", l, 0, 0, api.ErrNone},
		{"no such number, the greatest", []api.Inode{top}, math.MaxUint32, 0, api.ErrNone},
		{"no such number, too long", l, 4, 1025, api.ErrNone},
		{"no such number, far too long", l, 0, math.MaxUint32, api.ErrNone},
		{"a directory", l, 90, 5, api.ErrIsDir},
		{"a directory, the size that it has", l, 61, 0, api.ErrIsDir},
		{"a directory, too long", l, math.MaxUint32, 1025, api.ErrIsDir},
		{"the root", l, 1, 0, api.ErrIsDir},
		{"the root, too long", l, 1, math.MaxUint32, api.ErrIsDir},
		{"too long", l, 60, 1025, api.ErrBig},
		{"far too long", l, 3, math.MaxUint32, api.ErrBig},
		{"too long by the least wrap", l, 3, 1 << 31, api.ErrBig},
	} {
		now, err := Resize(c.list, c.id, c.size)
		fails(t, now, err, c.want, "%s: Resize of %d to %d", c.why, c.id, c.size)
	}
}

func TestResizeAgainstAReading(t *testing.T) {
	for why, l := range trees() {
		x, _ := told(l)
		for _, n := range l {
			for _, id := range []uint32{0, n.Id - 1, n.Id, n.Id + 1} {
				for _, size := range []uint32{0, 1, 500, 1023, 1024, 1025, math.MaxUint32} {
					now, err := Resize(l, id, size)
					y, want := x.resized(id, size)
					answers(t, now, err, y, want, "%s: Resize of %d to %d", why, id, size)
				}
			}
		}
	}
}

// P10.3: Rename.

func TestRename(t *testing.T) {
	l := mixed()
	l = renamed(t, l, "/a", "/b")
	l = renamed(t, l, "/b", "/e/b")
	l = renamed(t, l, "/e/b", "/d/d/d/b")
	l = renamed(t, l, "/d/d", "/x/y/w")
	l = renamed(t, l, "/x", "/e/x")
	want := []api.Inode{
		top, file(2, 90, "a", 1), file(3, 70, "a", 1024), file(5, math.MaxUint32, "b", 7), folder(7, 8, "z"), folder(8, 9, "y"), folder(9, 61, "x"),
		file(60, 70, "b", 0), folder(61, 1, "e"), folder(70, math.MaxUint32, "d"), folder(90, 1, "d"), file(math.MaxUint32-1, 1, "f", 33), folder(math.MaxUint32, 8, "w"),
	}
	if !slices.Equal(l, want) {
		t.Errorf("five were renamed: %v, want %v", l, want)
	}
	found(t, l, "/e/x/y/w/d/b", file(60, 70, "b", 0))
}

func TestRenameOntoItself(t *testing.T) {
	for why, l := range trees() {
		x, _ := told(l)
		for at := range x {
			if at == "/" {
				continue
			}
			if now, err := Rename(l, at, at); err != api.OK || !slices.Equal(now, l) {
				t.Errorf("%s: Rename of %q onto itself = %v, %d", why, at, now, err)
			}
		}
	}
}

func TestRenameWithinADirectory(t *testing.T) {
	// A full directory has room for another name of what is in it, and a full tree for it anywhere else.
	for _, c := range []struct {
		list     []api.Inode
		from, to string
	}{
		{crowded(), "/d/k0", "/d/a"},
		{crowded(), "/d/k11", "/d/zzzzzzzz"},
		{joined(crowd(2, 1, 12, true)), "/k3", "/a"},
		{fullest(), "/k0/k5", "/k0/a"},
		{fullest(), "/k0/k5", "/k2/k5"},
		{fullest(), "/k3", "/k4/k3"},
		{deepest(), "/a", "/b"},
		{deepest(), "/a/b/c", "/a/b/a"},
		{deepest(), "/a/b/c/d/e/f", "/a/b/c/d/e/h"},
		{deepest(), "/a/b/c/d/e/g", "/a/b/c/d/e/h"},
	} {
		x, _ := told(c.list)
		now, err := Rename(c.list, c.from, c.to)
		y, want := x.renamed(c.from, c.to)
		if want != api.OK {
			t.Errorf("the reading says error %d of %q to %q", want, c.from, c.to)
		}
		answers(t, now, err, y, want, "Rename of %q to %q", c.from, c.to)
	}
}

func TestRenameToTheGreatestDepth(t *testing.T) {
	l := grown("2 /a/", "3 /a/b/", "4 /a/b/c/", "5 /u/", "6 /u/v/", "7 /u/v/w/", "8 /u/v/w/x 3", "9 /f 1", "10 /a/b/s/", "11 /u/v/w/s/")
	for _, c := range []struct {
		from, to string
		want     api.Errno
		at       string
		n        api.Inode
	}{
		{"/u", "/a/b/u", api.OK, "/a/b/u/v/w/x", file(8, 7, "x", 3)},
		{"/u", "/a/b/c/u", api.ErrName, "", api.Inode{}},
		{"/u/v", "/a/b/c/v", api.OK, "/a/b/c/v/w/x", file(8, 7, "x", 3)},
		{"/u/v/w", "/a/b/c/w", api.OK, "/a/b/c/w/s", folder(11, 7, "s")},
		{"/a", "/u/v/a", api.OK, "/u/v/a/b/c", folder(4, 3, "c")},
		{"/a", "/u/v/w/a", api.OK, "/u/v/w/a/b/s", folder(10, 3, "s")},
		{"/a", "/u/v/w/s/a", api.ErrName, "", api.Inode{}},
		{"/a/b", "/u/v/w/s/b", api.OK, "/u/v/w/s/b/c", folder(4, 3, "c")},
		{"/f", "/u/v/w/s/f", api.OK, "/u/v/w/s/f", file(9, 1, "f", 1)},
	} {
		now, err := Rename(l, c.from, c.to)
		if c.want != api.OK || err != api.OK {
			fails(t, now, err, c.want, "Rename of %q to %q", c.from, c.to)
			continue
		}
		if c.from == "/f" {
			c.n.Parent = 11
		}
		found(t, now, c.at, c.n)
	}
	deep := deepest()
	for _, c := range []struct {
		from, to string
		want     api.Errno
	}{
		{"/a/b/c/d/e/g", "/g", api.OK}, {"/a/b/c/d/e", "/e", api.OK}, {"/a/b", "/b", api.OK}, {"/a/b", "/a/q", api.OK},
	} {
		now, err := Rename(deep, c.from, c.to)
		if err != c.want || !Right(now) {
			t.Errorf("Rename of %q to %q = %v, %d", c.from, c.to, now, err)
		}
	}
}

// renameCase is a Rename that fails.
type renameCase struct {
	why      string
	list     []api.Inode
	from, to string
	want     api.Errno
}

// renameCases are the errors of Rename, alone and together.
func renameCases() []renameCase {
	l, wrong := mixed(), []api.Inode{top, folder(2, 1, "a"), file(3, 2, "b", 1025)}
	// In deep, /s is full, /a/b/c/d/e is full too, and /t/u/v has a name inside.
	deep := joined(
		[]api.Inode{folder(2, 1, "a"), folder(3, 2, "b"), folder(4, 3, "c"), folder(5, 4, "d"), folder(6, 5, "e"), folder(7, 1, "t"), folder(8, 7, "u"), file(9, 8, "v", 1), folder(10, 1, "s"), file(11, 1, "f", 2)},
		crowd(100, 10, 12, true), crowd(200, 6, 12, false))
	return []renameCase{
		{"no tree", wrong, "/a", "/b", api.ErrArg},
		{"no tree, no path", wrong, "a", "/b", api.ErrArg},
		{"no tree, no path to go to", wrong, "/a", "b", api.ErrArg},
		{"no tree, what isn't there", wrong, "/q", "/b", api.ErrArg},
		{"no tree, the root", wrong, "/", "/b", api.ErrArg},
		{"no tree, there", wrong, "/a/b", "/a", api.ErrArg},
		{"no tree, onto itself", wrong, "/a", "/a", api.ErrArg},

		{"no path", l, "a", "/b", api.ErrName},
		{"no path to go to", l, "/a", "b", api.ErrName},
		{"no paths", l, "", "", api.ErrName},
		{"no path, over a file to go to", l, "a", "/f/x/y", api.ErrName},
		{"no path, the root to go to", l, "/a/", "/", api.ErrName},
		{"no path to go to, what isn't there", l, "/q", "/b/", api.ErrName},
		{"no path to go to, over a file", l, "/a/b", "/B", api.ErrName},
		{"no path to go to, the root", l, "/", "/..", api.ErrName},
		{"no path to go to, into itself", l, "/d", "/d/B", api.ErrName},
		{"no path to go to, there", l, "/d", "/a/", api.ErrName},
		{"no path to go to, 7 names", deepest(), "/a", "/a/b/c/d/e/f/g", api.ErrName},

		{"what isn't there", l, "/q", "/b", api.ErrNone},
		{"what isn't there, onto itself", l, "/q", "/q", api.ErrNone},
		{"what isn't there, to the root", l, "/q", "/", api.ErrNone},
		{"what isn't there, over a file to go to", l, "/q", "/a/b/c", api.ErrNone},
		{"what isn't there, in a file", l, "/d/q", "/a/b", api.ErrNone},
		{"what isn't there, into itself", l, "/q", "/q/r", api.ErrNone},
		{"what isn't there, there", l, "/q", "/a", api.ErrNone},
		{"what isn't there, a full directory", deep, "/q", "/s/q", api.ErrNone},
		{"over a file", l, "/a/b", "/b", api.ErrNotDir},
		{"over a file, to the root", l, "/a/b", "/", api.ErrNotDir},
		{"over a file, over what isn't there to go to", l, "/a/b", "/q/r", api.ErrNotDir},
		{"over a file, there", l, "/a/b", "/d", api.ErrNotDir},
		{"over a file, a full directory", deep, "/f/g", "/s/q", api.ErrNotDir},

		{"the root", l, "/", "/b", api.ErrBusy},
		{"the root, to itself", l, "/", "/", api.ErrBusy},
		{"the root, over what isn't there to go to", l, "/", "/q/r", api.ErrBusy},
		{"the root, over a file to go to", l, "/", "/a/b/c", api.ErrBusy},
		{"the root, in a file", l, "/", "/a/b", api.ErrBusy},
		{"the root, into itself", l, "/", "/d/b", api.ErrBusy},
		{"the root, there", l, "/", "/d", api.ErrBusy},
		{"the root, a full directory", deep, "/", "/s/q", api.ErrBusy},
		{"the root alone", []api.Inode{top}, "/", "/a", api.ErrBusy},

		{"over what isn't there to go to", l, "/a", "/q/r", api.ErrNone},
		{"over what isn't there to go to, into itself", l, "/d", "/d/q/r", api.ErrNone},
		{"over what isn't there to go to, a full directory", deep, "/f", "/s/q/r", api.ErrNone},
		{"over a file to go to", l, "/d", "/a/b/c", api.ErrNotDir},
		{"over a file to go to, itself", l, "/a", "/a/b/c", api.ErrNotDir},
		{"over a file to go to, into itself", l, "/d", "/d/a/b/c", api.ErrNotDir},
		{"to the root", l, "/a", "/", api.ErrThere},
		{"to the root, a directory", l, "/d", "/", api.ErrThere},
		{"to the root, from inside", l, "/d/d", "/", api.ErrThere},

		{"in a file", l, "/d", "/a/b", api.ErrNotDir},
		{"in a file, itself", l, "/a", "/a/b", api.ErrNotDir},
		{"in a file, inside itself", l, "/d", "/d/a/b", api.ErrNotDir},
		{"in a file, too deep", deep, "/a", "/f/a", api.ErrNotDir},

		{"into itself", l, "/e", "/e/a", api.ErrArg},
		{"into itself, further inside", l, "/d", "/d/d/d/q", api.ErrArg},
		{"into itself, there", l, "/d", "/d/a", api.ErrArg},
		{"into itself, there further inside", l, "/x", "/x/y/z", api.ErrArg},
		{"into itself, there by its own name", l, "/d", "/d/d", api.ErrArg},
		{"into itself, full", deep, "/s", "/s/q", api.ErrArg},
		{"into itself, full further inside", deep, "/a", "/a/b/c/d/e/q", api.ErrArg},
		{"into itself, too deep", deep, "/a", "/a/b/c/q", api.ErrArg},

		{"there, a file", l, "/f", "/a", api.ErrThere},
		{"there, a directory", l, "/f", "/d", api.ErrThere},
		{"there, an empty directory", l, "/x", "/e", api.ErrThere},
		{"there, in its own directory", l, "/d/a", "/d/d", api.ErrThere},
		{"there, its own directory", l, "/d/d", "/d", api.ErrThere},
		{"there, elsewhere by the same name", l, "/a", "/d/a", api.ErrThere},
		{"there, full", deep, "/f", "/s/k0", api.ErrThere},
		{"there, full and too deep", deep, "/t", "/a/b/c/d/e/k0", api.ErrThere},
		{"there, too deep", deep, "/t", "/a/b/c/d/e", api.ErrThere},

		{"full", deep, "/f", "/s/f", api.ErrMany},
		{"full, a directory", crowded(), "/e", "/d/e", api.ErrMany},
		{"full, the root", joined(crowd(2, 1, 12, true), []api.Inode{file(20, 2, "f", 0)}), "/k0/f", "/f", api.ErrMany},
		{"full, from inside it", joined([]api.Inode{folder(2, 1, "d")}, crowd(3, 2, 12, true), []api.Inode{file(20, 3, "f", 0)}), "/d/k0/f", "/d/f", api.ErrMany},
		{"full, too deep", deep, "/t", "/a/b/c/d/e/t", api.ErrMany},
		{"full, too deep by the last name", deep, "/t/u", "/a/b/c/d/e/u", api.ErrMany},

		{"too deep, by one", deep, "/t", "/a/b/c/d/t", api.ErrName},
		{"too deep, over what isn't there to go to", deepest(), "/a", "/q/a", api.ErrNone},
		{"too deep, an empty directory inside", grown("2 /a/", "3 /a/b/", "4 /1/", "5 /1/2/", "6 /1/2/3/", "7 /1/2/3/4/", "8 /1/2/3/4/5/"), "/a", "/1/2/3/4/5/a", api.ErrName},
		{"too deep, by a full tree's depth", joined(deepest()[1:], []api.Inode{folder(9, 1, "z")}), "/a", "/z/a", api.ErrName},
		{"too deep, from beside", joined(deepest()[1:], []api.Inode{folder(9, 2, "z")}), "/a/b", "/a/z/b", api.ErrName},
	}
}

func TestErrorsOfRename(t *testing.T) {
	for _, c := range renameCases() {
		l, err := Rename(c.list, c.from, c.to)
		fails(t, l, err, c.want, "%s: Rename of %q to %q", c.why, c.from, c.to)
	}
}

func TestRenameAgainstAReading(t *testing.T) {
	for why, l := range trees() {
		x, _ := told(l)
		all := spots(x)
		for i, from := range all {
			// Of the greater trees not every pair is looked at.
			for j := i % (1 + len(all)/60); j < len(all); j += 1 + len(all)/60 {
				now, err := Rename(l, from, all[j])
				y, want := x.renamed(from, all[j])
				answers(t, now, err, y, want, "%s: Rename of %q to %q", why, from, all[j])
			}
		}
	}
}

// The errors that all functions have, and their order.

// calls are calls of all functions that answer an error, with a path that does well, or one that is asked instead.
func calls(at string) map[string]func(l []api.Inode) ([]api.Inode, []string, api.Inode, api.Errno) {
	return map[string]func(l []api.Inode) ([]api.Inode, []string, api.Inode, api.Errno){
		"Find": func(l []api.Inode) ([]api.Inode, []string, api.Inode, api.Errno) {
			n, err := Find(l, at)
			return nil, nil, n, err
		},
		"List": func(l []api.Inode) ([]api.Inode, []string, api.Inode, api.Errno) {
			names, err := List(l, at)
			return nil, names, api.Inode{}, err
		},
		"Make a file": func(l []api.Inode) ([]api.Inode, []string, api.Inode, api.Errno) {
			now, err := Make(l, at, 1000, false)
			return now, nil, api.Inode{}, err
		},
		"Make a directory with the number 0": func(l []api.Inode) ([]api.Inode, []string, api.Inode, api.Errno) {
			now, err := Make(l, at, 0, true)
			return now, nil, api.Inode{}, err
		},
		"Remove a file": func(l []api.Inode) ([]api.Inode, []string, api.Inode, api.Errno) {
			now, n, err := Remove(l, at, false)
			return now, nil, n, err
		},
		"Remove a directory": func(l []api.Inode) ([]api.Inode, []string, api.Inode, api.Errno) {
			now, n, err := Remove(l, at, true)
			return now, nil, n, err
		},
		"Rename": func(l []api.Inode) ([]api.Inode, []string, api.Inode, api.Errno) {
			now, err := Rename(l, at, "/new")
			return now, nil, api.Inode{}, err
		},
		"Rename to it": func(l []api.Inode) ([]api.Inode, []string, api.Inode, api.Errno) {
			now, err := Rename(l, "/a", at)
			return now, nil, api.Inode{}, err
		},
		"Rename onto itself": func(l []api.Inode) ([]api.Inode, []string, api.Inode, api.Errno) {
			now, err := Rename(l, at, at)
			return now, nil, api.Inode{}, err
		},
	}
}

func TestAllFunctionsNeedATree(t *testing.T) {
	for why, l := range wrongLists() {
		for _, at := range []string{"/", "/a", "/a/b", "/new", "", "a", "/a/", "/A", "/a/b/c/d/e/f/g"} {
			for name, call := range calls(at) {
				now, names, n, err := call(l)
				if err != api.ErrArg || len(now) != 0 || len(names) != 0 || n != (api.Inode{}) {
					t.Errorf("%s: %s %q = %v, %q, %v, %d, want error %d", why, name, at, now, names, n, err, api.ErrArg)
				}
			}
		}
		for _, id := range []uint32{0, 1, 2, 3, 4, 1000, math.MaxUint32} {
			if n, ok := Get(l, id); ok || n != (api.Inode{}) {
				t.Errorf("%s: Get of %d = %v, %v, want false", why, id, n, ok)
			}
			now, err := Resize(l, id, 5)
			fails(t, now, err, api.ErrArg, "%s: Resize of %d", why, id)
		}
	}
}

func TestAllFunctionsNeedAPath(t *testing.T) {
	for why, l := range trees() {
		for _, at := range wrongPaths() {
			for name, call := range calls(at) {
				now, names, n, err := call(l)
				if err != api.ErrName || len(now) != 0 || len(names) != 0 || n != (api.Inode{}) {
					t.Errorf("%s: %s %.80q = %v, %q, %v, %d, want error %d", why, name, at, now, names, n, err, api.ErrName)
				}
			}
		}
	}
}

// Common rule 4: memory.

// junk is an inode that is in no tree.
var junk = api.Inode{Id: 77, Parent: 88, Name: "JUNK", Dir: true, Size: 99}

// roomy is a copy of a list with spare capacity, in which something lies.
func roomy(l []api.Inode) []api.Inode {
	m := append(slices.Clone(l), slices.Repeat([]api.Inode{junk}, 50)...)
	return m[:len(l):len(m)]
}

// whole is a copy of a list's memory, its spare capacity too.
func whole(l []api.Inode) []api.Inode { return slices.Clone(l[:cap(l)]) }

// spoil writes over a list's memory.
func spoil(l []api.Inode) {
	l = l[:cap(l)]
	for i := range l {
		l[i] = junk
	}
}

// keeps fails unless a call leaves the list that is handed in as it was, and answers new memory, each time it is called.
func keeps(t *testing.T, l []api.Inode, why string, call func(l []api.Inode) []api.Inode) {
	t.Helper()
	arg := roomy(l)
	before := whole(arg)
	first := call(arg)
	if !slices.Equal(whole(arg), before) {
		t.Errorf("%s: the list that was handed in is %v, was %v", why, whole(arg), before)
	}
	want := slices.Clone(first)
	spoil(first)
	if !slices.Equal(whole(arg), before) {
		t.Errorf("%s: what was answered shares memory with what was handed in", why)
	}
	second := call(arg)
	if !slices.Equal(second, want) {
		t.Errorf("%s: the same call answers %v, then %v", why, want, second)
	}
	spoil(first)
	spoil(arg)
	if !slices.Equal(second, want) {
		t.Errorf("%s: what was answered changes with other memory", why)
	}
}

func TestListsOfInodesAreNewMemory(t *testing.T) {
	for why, l := range trees() {
		x, _ := told(l)
		for _, at := range spots(x) {
			for name, call := range calls(at) {
				keeps(t, l, fmt.Sprintf("%s: %s %q", why, name, at), func(l []api.Inode) []api.Inode {
					now, _, _, _ := call(l)
					return now
				})
			}
		}
		for _, n := range l {
			for _, size := range []uint32{n.Size, 5, 1025} {
				keeps(t, l, fmt.Sprintf("%s: Resize of %d to %d", why, n.Id, size), func(l []api.Inode) []api.Inode {
					now, _ := Resize(l, n.Id, size)
					return now
				})
			}
			keeps(t, l, fmt.Sprintf("%s: Get of %d", why, n.Id), func(l []api.Inode) []api.Inode {
				n, _ := Get(l, n.Id)
				return []api.Inode{n}
			})
		}
		keeps(t, l, why+": Right", func(l []api.Inode) []api.Inode {
			Right(l)
			return nil
		})
	}
}

func TestWrongListsStayAsTheyAre(t *testing.T) {
	for why, l := range wrongLists() {
		if len(l) > 100 {
			continue
		}
		for name, call := range calls("/a") {
			keeps(t, l, fmt.Sprintf("%s: %s", why, name), func(l []api.Inode) []api.Inode {
				now, _, _, _ := call(l)
				return now
			})
		}
		keeps(t, l, why+": Resize, Get and Right", func(l []api.Inode) []api.Inode {
			Right(l)
			Get(l, 2)
			now, _ := Resize(l, 2, 5)
			return now
		})
	}
}

func TestListsOfNamesAreNewMemory(t *testing.T) {
	write := func(l []string) {
		l = l[:cap(l)]
		for i := range l {
			l[i] = "JUNK"
		}
	}
	check := func(why string, call func() []string) {
		first := call()
		want := slices.Clone(first)
		write(first)
		second := call()
		if !slices.Equal(second, want) {
			t.Errorf("%s = %q, then %q", why, want, second)
		}
		write(first)
		if !slices.Equal(second, want) {
			t.Errorf("%s: two answers share memory", why)
		}
	}
	for _, s := range append(wrongPaths(), rightPaths...) {
		check(fmt.Sprintf("Split of %.80q", s), func() []string {
			names, _ := Split(s)
			return names
		})
	}
	for why, l := range trees() {
		x, _ := told(l)
		arg := roomy(l)
		before := whole(arg)
		for at := range x {
			check(fmt.Sprintf("%s: List of %q", why, at), func() []string {
				names, _ := List(arg, at)
				return names
			})
			if names, _ := List(arg, at); len(names) > 0 {
				spoiled := slices.Clone(names)
				other := roomy(l)
				answer, _ := List(other, at)
				spoil(other)
				if !slices.Equal(answer, spoiled) {
					t.Errorf("%s: List of %q changes with the list that was handed in", why, at)
				}
			}
		}
		if !slices.Equal(whole(arg), before) {
			t.Errorf("%s: List changes what is handed in", why)
		}
	}
}

// P10.4 to P10.7.

// makesAndRemoves and renamesAndRenames fail unless what was done to a tree can be done backwards, and say whether there was something to do.
func makesAndRemoves(t *testing.T, l []api.Inode, at string, id uint32, dir bool) bool {
	t.Helper()
	now, err := Make(l, at, id, dir)
	if err != api.OK {
		return false
	}
	back, n, err := Remove(now, at, dir)
	if err != api.OK || !slices.Equal(back, l) || n.Id != id || n.Dir != dir || n.Size != 0 || n.Name != path.Base(at) {
		t.Fatalf("Make of %q, %d, %v in %v, and Remove = %v, %v, %d", at, id, dir, l, back, n, err)
	}
	return true
}

func renamesAndRenames(t *testing.T, l []api.Inode, from, to string) bool {
	t.Helper()
	now, err := Rename(l, from, to)
	if err != api.OK {
		return false
	}
	back, err := Rename(now, to, from)
	if err != api.OK || !slices.Equal(back, l) {
		t.Fatalf("Rename of %q to %q in %v, and back = %v, %d", from, to, l, back, err)
	}
	return true
}

func TestMakingAndRemovingRestoresTheTree(t *testing.T) {
	done := 0
	for _, l := range trees() {
		x, _ := told(l)
		for _, at := range spots(x) {
			for _, id := range []uint32{2, 10, 500, math.MaxUint32} {
				for _, dir := range []bool{false, true} {
					if makesAndRemoves(t, l, at, id, dir) {
						done++
					}
				}
			}
		}
	}
	if done < 500 {
		t.Errorf("only %d were made", done)
	}
}

func TestRenamingAndRenamingBackRestoresTheTree(t *testing.T) {
	done := 0
	for _, l := range trees() {
		x, _ := told(l)
		for from := range x {
			for _, to := range spots(x) {
				if renamesAndRenames(t, l, from, to) {
					done++
				}
			}
		}
	}
	if done < 1000 {
		t.Errorf("only %d were renamed", done)
	}
}

func TestWhatWasMadeIsFound(t *testing.T) {
	for _, l := range trees() {
		x, _ := told(l)
		for _, at := range spots(x) {
			now, err := Make(l, at, 500, true)
			if err != api.OK {
				continue
			}
			if !Right(now) {
				t.Errorf("Make of %q in %v = %v, no tree", at, l, now)
			}
			if n, err := Find(now, at); err != api.OK || n.Id != 500 || !n.Dir || n.Size != 0 {
				t.Errorf("Find of %q that was made = %v, %d", at, n, err)
			}
			for _, other := range spots(x) {
				was, want := Find(l, other)
				if n, err := Find(now, other); other != at && !strings.HasPrefix(other, at+"/") && (n != was || err != want) {
					t.Errorf("Make of %q: Find of %q = %v, %d, was %v, %d", at, other, n, err, was, want)
				}
			}
		}
	}
}

func TestWhatWasRenamedIsFound(t *testing.T) {
	for _, l := range trees() {
		x, _ := told(l)
		for from := range x {
			for _, to := range spots(x) {
				now, err := Rename(l, from, to)
				if err != api.OK {
					continue
				}
				for at := range x {
					was, _ := Find(l, at)
					if rest, ok := strings.CutPrefix(at+"/", from+"/"); ok {
						at = strings.TrimSuffix(to+"/"+rest, "/")
					}
					if n, err := Find(now, at); err != api.OK || n.Id != was.Id || n.Dir != was.Dir || n.Size != was.Size {
						t.Fatalf("Rename of %q to %q in %v: Find of %q = %v, %d, was %v", from, to, l, at, n, err, was)
					}
				}
				if from != to {
					lost(t, now, from, api.ErrNone)
				}
			}
		}
	}
}

// stepper does random things to a tree and to its telling.
type stepper struct {
	t    *testing.T
	r    *rand.Rand
	list []api.Inode
	x    telling
	next uint32
	done map[string]int
}

// at is a path: mostly one of the tree, or one beside it.
func (s *stepper) at() string {
	l := slices.Sorted(maps.Keys(s.x))
	at := l[s.r.Intn(len(l))]
	if s.r.Intn(4) == 0 {
		at = "/"
	}
	for range []int{0, 0, 1, 1, 1, 2}[s.r.Intn(6)] {
		at = under(at, string("abcdefghijklmnop"[s.r.Intn(16)]))
	}
	if s.r.Intn(60) == 0 {
		at += "/"
	}
	return at
}

// id is a number: mostly one that isn't there.
func (s *stepper) id() uint32 {
	if s.r.Intn(4) == 0 {
		return uint32(s.r.Intn(60))
	}
	s.next += 1 + uint32(s.r.Intn(3))
	if s.r.Intn(8) == 0 {
		return math.MaxUint32 - s.next
	}
	return s.next
}

// step does one thing, and takes it over if it can be done.
func (s *stepper) step() {
	t := s.t
	t.Helper()
	var now []api.Inode
	var y telling
	var err, want api.Errno
	var what string
	switch k := s.r.Intn(10); {
	case k < 4:
		at, id, dir := s.at(), s.id(), s.r.Intn(3) > 0
		what = fmt.Sprintf("Make of %q, %d, %v", at, id, dir)
		makesAndRemoves(t, s.list, at, id, dir)
		now, err = Make(s.list, at, id, dir)
		y, want = s.x.made(at, id, dir)
	case k < 5:
		at, dir := s.at(), s.r.Intn(2) == 0
		what = fmt.Sprintf("Remove of %q, %v", at, dir)
		now, _, err = Remove(s.list, at, dir)
		y, _, want = s.x.removed(at, dir)
	case k < 8:
		from, to := s.at(), s.at()
		what = fmt.Sprintf("Rename of %q to %q", from, to)
		renamesAndRenames(t, s.list, from, to)
		now, err = Rename(s.list, from, to)
		y, want = s.x.renamed(from, to)
	default:
		id, size := s.list[s.r.Intn(len(s.list))].Id+uint32(s.r.Intn(20)/19), uint32(s.r.Intn(1100))
		what = fmt.Sprintf("Resize of %d to %d", id, size)
		now, err = Resize(s.list, id, size)
		y, want = s.x.resized(id, size)
	}
	if err == api.OK && !Right(now) {
		t.Fatalf("%s in %v = %v, no tree", what, s.list, now)
	}
	answers(t, now, err, y, want, "%s in %v", what, s.list)
	s.done[fmt.Sprintf("%s, error %d", strings.Fields(what)[0], err)]++
	if err == api.OK && want == api.OK {
		s.list, s.x = now, y
	}
}

func TestRandomRuns(t *testing.T) {
	r := rand.New(rand.NewSource(3))
	done := map[string]int{}
	all := sorted()
	for i := range 4 * len(all) {
		l := all[i%len(all)]
		x, _ := told(l)
		s := stepper{t: t, r: r, list: l, x: x, next: 1, done: done}
		for range 400 {
			s.step()
			if t.Failed() {
				return
			}
		}
	}
	for _, k := range []string{
		"Make, error 0", "Make, error 1", "Make, error 7", "Make, error 8", "Make, error 9", "Make, error 10", "Make, error 16",
		"Remove, error 0", "Remove, error 7", "Remove, error 9", "Remove, error 10", "Remove, error 11", "Remove, error 21", "Remove, error 24",
		"Rename, error 0", "Rename, error 1", "Rename, error 7", "Rename, error 8", "Rename, error 9", "Rename, error 10", "Rename, error 16", "Rename, error 21",
		"Resize, error 0", "Resize, error 7", "Resize, error 11", "Resize, error 15",
	} {
		if done[k] < 5 {
			t.Errorf("%s: only %d times", k, done[k])
		}
	}
}
