package remote_test

import (
	"fmt"
	"maps"
	"math"
	"math/rand/v2"
	"slices"
	"strings"
	"testing"

	"thwart/api"
	"thwart/remote"
)

// place is what a remote and its plain counterpart can do.
type place interface {
	Script(l []int)
	Put(name, b string) api.Errno
	PutNew(name, b string) api.Errno
	Get(name string) (string, api.Errno)
	Delete(name string) api.Errno
	List() ([]string, api.Errno)
	Calls() int
}

// plainObject is an object of a plainRemote.
type plainObject struct{ name, b string }

// plainRemote follows the chapter's words sentence by sentence, with objects in a list in no order.
type plainRemote struct {
	objects []plainObject
	script  []int
	used    int
	calls   int
}

func (p *plainRemote) at(name string) int {
	return slices.IndexFunc(p.objects, func(o plainObject) bool { return o.name == name })
}

// fate tells of the next call whether it has its effect, and whether it fails.
func (p *plainRemote) fate() (effect, fails bool) {
	p.calls++
	if p.used == len(p.script) {
		return true, false
	}
	x := p.script[p.used]
	p.used++
	return x != 1, x == 1 || x == 2
}

func (p *plainRemote) Script(l []int) {
	p.script, p.used = append([]int{}, l...), 0
}

func (p *plainRemote) Put(name, b string) api.Errno {
	effect, fails := p.fate()
	if effect {
		p.remove(name)
		p.objects = append(p.objects, plainObject{name, b})
	}
	if fails {
		return api.ErrFar
	}
	return api.OK
}

func (p *plainRemote) PutNew(name, b string) api.Errno {
	effect, fails := p.fate()
	there := p.at(name) >= 0
	if effect && !there {
		p.objects = append(p.objects, plainObject{name, b})
	}
	switch {
	case fails:
		return api.ErrFar
	case there:
		return api.ErrTwice
	}
	return api.OK
}

func (p *plainRemote) Get(name string) (string, api.Errno) {
	_, fails := p.fate()
	switch i := p.at(name); {
	case fails:
		return "", api.ErrFar
	case i < 0:
		return "", api.ErrNone
	default:
		return p.objects[i].b, api.OK
	}
}

func (p *plainRemote) remove(name string) {
	if i := p.at(name); i >= 0 {
		p.objects = append(p.objects[:i], p.objects[i+1:]...)
	}
}

func (p *plainRemote) Delete(name string) api.Errno {
	effect, fails := p.fate()
	if effect {
		p.remove(name)
	}
	if fails {
		return api.ErrFar
	}
	return api.OK
}

func (p *plainRemote) List() ([]string, api.Errno) {
	_, fails := p.fate()
	if fails {
		return nil, api.ErrFar
	}
	var l []string
	for _, o := range p.objects {
		l = append(l, o.name)
	}
	slices.SortFunc(l, strings.Compare)
	return l, api.OK
}

func (p *plainRemote) Calls() int {
	return p.calls
}

// call is one call with its arguments; those that the function does not have are zero.
type call struct {
	kind, name, b string
	script        []int
}

// on makes the call, and tells its results.
func (c call) on(r place) string {
	switch c.kind {
	case "Put":
		return fmt.Sprint(int(r.Put(c.name, c.b)))
	case "PutNew":
		return fmt.Sprint(int(r.PutNew(c.name, c.b)))
	case "Get":
		b, err := r.Get(c.name)
		return fmt.Sprintf("%q %d", b, int(err))
	case "Delete":
		return fmt.Sprint(int(r.Delete(c.name)))
	case "List":
		l, err := r.List()
		return fmt.Sprintf("%q %d", l, int(err))
	case "Script":
		r.Script(c.script)
	}
	return ""
}

// far is what the call returns if it fails.
func (c call) far() string {
	switch c.kind {
	case "Get":
		return `"" 9`
	case "List":
		return `[] 9`
	default:
		return "9"
	}
}

// objects are names with their bytes.
type objects map[string]string

// with is a remote that has these objects and no script.
func with(t *testing.T, l objects) *remote.Remote {
	t.Helper()
	r := remote.New()
	for name, b := range l {
		want(t, fmt.Sprintf("Put(%q)", name), r.Put(name, b), api.OK)
	}
	return r
}

// want complains about an error number that is another one.
func want(t *testing.T, what string, got, want api.Errno) {
	t.Helper()
	if got != want {
		t.Errorf("%s: %d, want %d", what, got, want)
	}
}

// wantGet complains if the object has other bytes, or Get another error.
func wantGet(t *testing.T, r *remote.Remote, name, b string, err api.Errno) {
	t.Helper()
	if gotB, gotErr := r.Get(name); gotB != b || gotErr != err {
		t.Errorf("Get(%q) = %q, %d; want %q, %d", name, gotB, gotErr, b, err)
	}
}

// wantList complains if the names are others, or there is an error.
func wantList(t *testing.T, r *remote.Remote, names ...string) {
	t.Helper()
	if l, err := r.List(); !slices.Equal(l, names) || err != api.OK {
		t.Errorf("List() = %q, %d; want %q", l, err, names)
	}
}

// wantObjects complains if the remote has others than these; what was left of the script is gone behind it.
func wantObjects(t *testing.T, r *remote.Remote, l objects) {
	t.Helper()
	r.Script(nil)
	wantList(t, r, slices.Sorted(maps.Keys(l))...)
	for name, b := range l {
		wantGet(t, r, name, b, api.OK)
	}
}

// contents tells all objects; what was left of the script is gone behind it.
func contents(r place) string {
	r.Script(nil)
	l, err := r.List()
	b := fmt.Sprint(int(err))
	for _, name := range l {
		b += fmt.Sprintf(", %q: %s", name, call{kind: "Get", name: name}.on(r))
	}
	return b
}

// trial is a call on a remote with the objects a and b, and what it does.
type trial struct {
	call
	result string // if it is fine
	after  objects
}

func before() objects {
	return objects{"a": "1", "b": "2"}
}

// trials are calls of all kinds, with the object there and without.
func trials() []trial {
	return []trial{
		{call{kind: "Put", name: "a", b: "3"}, "0", objects{"a": "3", "b": "2"}},
		{call{kind: "Put", name: "a", b: "1"}, "0", before()},
		{call{kind: "Put", name: "a", b: ""}, "0", objects{"a": "", "b": "2"}},
		{call{kind: "Put", name: "c", b: "3"}, "0", objects{"a": "1", "b": "2", "c": "3"}},
		{call{kind: "Put", name: "c", b: ""}, "0", objects{"a": "1", "b": "2", "c": ""}},
		{call{kind: "Put", name: "", b: "3"}, "0", objects{"": "3", "a": "1", "b": "2"}},
		{call{kind: "PutNew", name: "a", b: "3"}, "7", before()},
		{call{kind: "PutNew", name: "a", b: "1"}, "7", before()},
		{call{kind: "PutNew", name: "a", b: ""}, "7", before()},
		{call{kind: "PutNew", name: "c", b: "3"}, "0", objects{"a": "1", "b": "2", "c": "3"}},
		{call{kind: "PutNew", name: "c", b: ""}, "0", objects{"a": "1", "b": "2", "c": ""}},
		{call{kind: "PutNew", name: "", b: ""}, "0", objects{"": "", "a": "1", "b": "2"}},
		{call{kind: "Get", name: "a"}, `"1" 0`, before()},
		{call{kind: "Get", name: "b"}, `"2" 0`, before()},
		{call{kind: "Get", name: "c"}, `"" 5`, before()},
		{call{kind: "Get", name: ""}, `"" 5`, before()},
		{call{kind: "Delete", name: "a"}, "0", objects{"b": "2"}},
		{call{kind: "Delete", name: "b"}, "0", objects{"a": "1"}},
		{call{kind: "Delete", name: "c"}, "0", before()},
		{call{kind: "Delete", name: ""}, "0", before()},
		{call{kind: "List"}, `["a" "b"] 0`, before()},
	}
}

// others are numbers by which a call is fine, although some of them look like 1 or 2 to a part of their bits.
func others() []int {
	return []int{0, 3, 4, 5, 9, 129, 257, 258, 1<<16 + 1, 1<<16 + 2, 1 << 31, 1<<32 + 1, 1<<32 + 2, math.MaxInt - 1, math.MaxInt,
		-1, -2, -3, -255, -254, -1<<32 + 1, -1<<32 + 2, math.MinInt, math.MinInt + 1, math.MinInt + 2}
}

// P7.1

func TestNamesOfTheFates(t *testing.T) {
	if remote.Fine != 0 || remote.Lost != 1 || remote.Late != 2 {
		t.Errorf("%d, %d, %d", remote.Fine, remote.Lost, remote.Late)
	}
}

func TestNewRemoteHasNoObjects(t *testing.T) {
	for _, name := range []string{"", "a", "new", "\x00", strings.Repeat("n", 1000)} {
		r := remote.New()
		if r == nil {
			t.Fatal("no remote")
		}
		if n := r.Calls(); n != 0 {
			t.Errorf("%d calls of a new remote", n)
		}
		wantList(t, r)
		wantGet(t, r, name, "", api.ErrNone)
		want(t, "Delete of none", r.Delete(name), api.OK)
		wantGet(t, r, name, "", api.ErrNone)
		wantList(t, r)
		want(t, "PutNew", r.PutNew(name, "x"), api.OK)
		wantGet(t, r, name, "x", api.OK)
		wantList(t, r, name)
	}
}

func TestNewRemoteHasNoScript(t *testing.T) {
	r := remote.New()
	for i := range 1000 {
		name := fmt.Sprintf("%04d", i)
		want(t, "PutNew", r.PutNew(name, "x"), api.OK)
		want(t, "Put", r.Put(name, name), api.OK)
		wantGet(t, r, name, name, api.OK)
		want(t, "Delete", r.Delete(name), api.OK)
		wantList(t, r)
	}
	if r.Calls() != 5000 {
		t.Errorf("%d calls, want 5000", r.Calls())
	}
}

func TestRemotesShareNothing(t *testing.T) {
	a, b := remote.New(), remote.New()
	a.Script([]int{0, 1})
	want(t, "Put", a.Put("a", "1"), api.OK)
	if a.Calls() != 1 || b.Calls() != 0 {
		t.Errorf("%d and %d calls, want 1 and 0", a.Calls(), b.Calls())
	}
	wantList(t, b)
	want(t, "the other's script", b.Put("b", "2"), api.OK)
	want(t, "its own script", a.Put("a", "3"), api.ErrFar)
	wantObjects(t, a, objects{"a": "1"})
	wantObjects(t, b, objects{"b": "2"})
}

func TestAScriptRunsOut(t *testing.T) {
	for n := range 40 {
		for _, fate := range []int{remote.Lost, remote.Late} {
			r := with(t, before())
			r.Script(slices.Repeat([]int{fate}, n))
			for i := range n {
				wantGet(t, r, "a", "", api.ErrFar)
				if r.Calls() != i+3 {
					t.Errorf("%d calls, want %d", r.Calls(), i+3)
				}
			}
			for range 50 {
				wantGet(t, r, "a", "1", api.OK)
			}
		}
	}
}

func TestAScriptIsUsedInOrder(t *testing.T) {
	script := []int{0, 1, 2, 0, 2, 1, 1, 7, 2, -1, 0, 1, 2, 2}
	for i := range 4 {
		r := with(t, before())
		r.Script(script)
		for k, fate := range script {
			wanted := api.OK
			if fate == 1 || fate == 2 {
				wanted = api.ErrFar
			}
			// Whatever the kinds of the calls, each uses one element.
			got := api.OK
			switch (i + k) % 4 {
			case 0:
				got = r.Put("c", "3")
			case 1:
				got = r.Delete("d")
			case 2:
				_, got = r.List()
			case 3:
				_, got = r.Get("a")
			}
			want(t, fmt.Sprintf("call %d from kind %d on", k, i), got, wanted)
		}
		wantGet(t, r, "a", "1", api.OK)
	}
}

func TestEachKindUsesOneElement(t *testing.T) {
	for _, x := range trials() {
		for _, fate := range append(others(), remote.Lost, remote.Late) {
			r := with(t, before())
			r.Script([]int{fate, remote.Lost})
			x.on(r)
			want(t, fmt.Sprintf("behind %+v with %d", x.call, fate), r.Delete("a"), api.ErrFar)
			want(t, fmt.Sprintf("behind the script of %+v", x.call), r.Delete("a"), api.OK)
		}
	}
}

func TestScriptReplacesTheUnusedPart(t *testing.T) {
	first := []int{1, 2, 0, 1, 2}
	for used := range len(first) + 3 {
		for _, second := range [][]int{nil, {}, {0}, {1}, {2}, {0, 1}, {2, 0, 1}, {0, 0, 0, 0, 0, 0, 2}, {1, 1, 1, 1, 1, 1, 1, 1}} {
			r := with(t, before())
			r.Script(first)
			for range used {
				r.Get("a")
			}
			r.Script(second)
			for i, fate := range append(slices.Clone(second), 0, 0, 0, 0, 0, 0) {
				b, err := "1", api.OK
				if fate != 0 {
					b, err = "", api.ErrFar
				}
				if gotB, gotErr := r.Get("a"); gotB != b || gotErr != err {
					t.Errorf("call %d of %d behind %d of %d: %q, %d; want %q, %d", i, second, used, first, gotB, gotErr, b, err)
				}
			}
			wantObjects(t, r, before())
		}
	}
}

func TestScriptChangesNothingElse(t *testing.T) {
	r := with(t, before())
	for _, l := range [][]int{nil, {}, {1}, {2}, {1, 2}, {0}, {2, 2, 2}} {
		r.Script(l)
		if r.Calls() != 2 {
			t.Errorf("%d calls behind Script(%d), want 2", r.Calls(), l)
		}
	}
	wantObjects(t, r, before())
}

func TestTheScriptMayBeWrittenTo(t *testing.T) {
	for _, used := range []int{0, 1, 2, 4} {
		l := append(make([]int, 0, 10), 1, 0, 2, 0)
		r := with(t, before())
		r.Script(l)
		for range used {
			r.Get("a")
		}
		if !slices.Equal(l, []int{1, 0, 2, 0}) {
			t.Errorf("the argument became %d", l)
		}
		wanted := []api.Errno{api.ErrFar, api.OK, api.ErrFar, api.OK, api.OK, api.OK}[used:]
		l[0], l[1], l[2], l[3] = 0, 1, 0, 2
		l = append(l, 1, 1, 1, 1)
		for i := range wanted {
			_, err := r.Get("a")
			want(t, fmt.Sprintf("call %d behind %d", i, used), err, wanted[i])
		}
	}
}

func TestTheSameScriptTwice(t *testing.T) {
	l := []int{1, 0, 2}
	a, b := with(t, before()), with(t, before())
	a.Script(l)
	b.Script(l)
	for _, wanted := range []api.Errno{api.ErrFar, api.OK, api.ErrFar, api.OK} {
		for _, r := range []*remote.Remote{a, b} {
			_, err := r.List()
			want(t, "List", err, wanted)
		}
	}
	a.Script(l)
	_, err := a.List()
	want(t, "List again", err, api.ErrFar)
}

func TestCallsCountsTheFiveKinds(t *testing.T) {
	for _, x := range trials() {
		for _, fate := range append(others(), remote.Lost, remote.Late) {
			r := remote.New()
			for i := range 5 {
				r.Script([]int{fate})
				if r.Calls() != i || r.Calls() != i {
					t.Errorf("%d calls ahead of %+v with %d, want %d", r.Calls(), x.call, fate, i)
				}
				x.on(r)
				if r.Calls() != i+1 || r.Calls() != i+1 {
					t.Errorf("%d calls behind %+v with %d, want %d", r.Calls(), x.call, fate, i+1)
				}
			}
		}
	}
}

// P7.2

func TestExample(t *testing.T) {
	r := remote.New()
	r.Script([]int{2})
	want(t, "Put", r.Put("a", "x"), api.ErrFar)
	wantGet(t, r, "a", "x", api.OK)
}

func TestFineCalls(t *testing.T) {
	for _, x := range trials() {
		r := with(t, before())
		if got := x.on(r); got != x.result {
			t.Errorf("%+v without a script: %s, want %s", x.call, got, x.result)
		}
		wantObjects(t, r, x.after)
		for _, fate := range others() {
			r := with(t, before())
			r.Script([]int{fate, remote.Lost})
			if got := x.on(r); got != x.result {
				t.Errorf("%+v with %d: %s, want %s", x.call, fate, got, x.result)
			}
			wantObjects(t, r, x.after)
		}
	}
}

func TestLostCallsChangeNothing(t *testing.T) {
	for _, x := range trials() {
		r := with(t, before())
		r.Script([]int{remote.Lost})
		if got := x.on(r); got != x.far() {
			t.Errorf("%+v, lost: %s, want %s", x.call, got, x.far())
		}
		wantObjects(t, r, before())
		if got := x.on(r); got != x.result {
			t.Errorf("%+v behind a lost one: %s, want %s", x.call, got, x.result)
		}
		wantObjects(t, r, x.after)
	}
}

func TestLateCallsHaveTheirEffect(t *testing.T) {
	for _, x := range trials() {
		r := with(t, before())
		r.Script([]int{remote.Late})
		if got := x.on(r); got != x.far() {
			t.Errorf("%+v, late: %s, want %s", x.call, got, x.far())
		}
		wantObjects(t, r, x.after)
	}
}

func TestCallsOfAnEmptyRemote(t *testing.T) {
	for _, name := range []string{"", "a"} {
		for _, x := range []trial{
			{call{kind: "Put", name: name, b: "1"}, "0", objects{name: "1"}},
			{call{kind: "Put", name: name}, "0", objects{name: ""}},
			{call{kind: "PutNew", name: name, b: "1"}, "0", objects{name: "1"}},
			{call{kind: "PutNew", name: name}, "0", objects{name: ""}},
			{call{kind: "Get", name: name}, `"" 5`, objects{}},
			{call{kind: "Delete", name: name}, "0", objects{}},
			{call{kind: "List"}, "[] 0", objects{}},
		} {
			for fate, result := range []string{x.result, x.far(), x.far()} {
				r := remote.New()
				r.Script([]int{fate})
				if got := x.on(r); got != result {
					t.Errorf("%+v with %d: %s, want %s", x.call, fate, got, result)
				}
				if fate == remote.Lost {
					wantObjects(t, r, objects{})
				} else {
					wantObjects(t, r, x.after)
				}
			}
		}
	}
}

func TestEmptyNamesAndBytesAreObjects(t *testing.T) {
	r := remote.New()
	want(t, "Put", r.Put("", ""), api.OK)
	wantObjects(t, r, objects{"": ""})
	want(t, "PutNew", r.PutNew("", "x"), api.ErrTwice)
	wantObjects(t, r, objects{"": ""})
	want(t, "Put", r.Put("a", ""), api.OK)
	want(t, "PutNew", r.PutNew("a", ""), api.ErrTwice)
	wantObjects(t, r, objects{"": "", "a": ""})
	want(t, "Put", r.Put("", "x"), api.OK)
	want(t, "Put", r.Put("a", "y"), api.OK)
	wantObjects(t, r, objects{"": "x", "a": "y"})
	want(t, "Delete", r.Delete(""), api.OK)
	wantObjects(t, r, objects{"a": "y"})
	wantGet(t, r, "", "", api.ErrNone)
	want(t, "PutNew", r.PutNew("", "z"), api.OK)
	wantObjects(t, r, objects{"": "z", "a": "y"})
}

func TestNamesAndBytesOfAllForms(t *testing.T) {
	all := objects{}
	for i, b := range []string{"", "\x00", "\x00\x00", "/", "..", "a", "A", "a ", "é", "e\u0301", "\xff", "\x80\xff", "m000001", strings.Repeat("n", 21), strings.Repeat("é", 50000)} {
		all[b] = strings.Repeat(b, i)
	}
	all["large"] = strings.Repeat("0123456789abcdef", 1<<17)
	r := with(t, all)
	wantObjects(t, r, all)
	for name := range all {
		want(t, "PutNew", r.PutNew(name, "other"), api.ErrTwice)
	}
	wantObjects(t, r, all)
	for name := range all {
		want(t, "Delete", r.Delete(name), api.OK)
		wantGet(t, r, name, "", api.ErrNone)
	}
	wantObjects(t, r, nil)
}

func TestPutReplacesAllBytes(t *testing.T) {
	r := remote.New()
	for _, b := range []string{"first", "", "second one", "2", "2", "a third that is longer", "x"} {
		want(t, "Put", r.Put("a", b), api.OK)
		wantObjects(t, r, objects{"a": b})
	}
}

func TestPutNewBehindADelete(t *testing.T) {
	r := with(t, before())
	want(t, "PutNew", r.PutNew("a", "3"), api.ErrTwice)
	want(t, "Delete", r.Delete("a"), api.OK)
	want(t, "Delete", r.Delete("a"), api.OK)
	want(t, "PutNew", r.PutNew("a", "4"), api.OK)
	want(t, "PutNew", r.PutNew("a", "5"), api.ErrTwice)
	wantObjects(t, r, objects{"a": "4", "b": "2"})
}

// names are names in increasing order.
func names() []string {
	return []string{"", "\x00", "\x00\x00", "0", "10", "9", "A", "B", "a", "a\x00", "a0", "aa", "ab", "b", "é", "\xff", "\xff\xff"}
}

func TestListIsInIncreasingOrder(t *testing.T) {
	l := names()
	for seed := range uint64(20) {
		random := rand.New(rand.NewPCG(1, seed))
		r := remote.New()
		for _, i := range random.Perm(len(l)) {
			want(t, "Put", r.Put(l[i], "x"), api.OK)
		}
		wantList(t, r, l...)
		there := slices.Clone(l)
		for _, i := range random.Perm(len(l))[:10] {
			want(t, "Delete", r.Delete(l[i]), api.OK)
			there = slices.DeleteFunc(there, func(name string) bool { return name == l[i] })
			wantList(t, r, there...)
		}
		for _, i := range random.Perm(len(l)) {
			r.PutNew(l[i], "y")
		}
		wantList(t, r, l...)
	}
	for i := range l {
		r := remote.New()
		for _, name := range slices.Concat(l[i:], l[:i]) {
			want(t, "PutNew", r.PutNew(name, ""), api.OK)
		}
		wantList(t, r, l...)
		want(t, "Delete", r.Delete(l[i]), api.OK)
		wantList(t, r, slices.Concat(l[:i], l[i+1:])...)
	}
}

func TestListOfManyObjects(t *testing.T) {
	const many = 20000
	r := remote.New()
	var l []string
	for i := range many {
		l = append(l, fmt.Sprintf("%06d", i))
	}
	for _, i := range rand.New(rand.NewPCG(3, 4)).Perm(many) {
		want(t, "PutNew", r.PutNew(l[i], l[i]), api.OK)
	}
	wantList(t, r, l...)
	for i := 0; i < many; i += 2 {
		want(t, "Delete", r.Delete(l[i]), api.OK)
	}
	for i := range many / 2 {
		l[i] = l[2*i+1]
	}
	wantList(t, r, l[:many/2]...)
}

func TestListHasEachNameOnce(t *testing.T) {
	r := remote.New()
	for range 5 {
		r.Put("a", "x")
		r.PutNew("a", "y")
		r.PutNew("b", "z")
	}
	wantList(t, r, "a", "b")
}

func TestAListMayBeWrittenTo(t *testing.T) {
	all := objects{"a": "1", "b": "2", "c": "3"}
	r := with(t, all)
	first, _ := r.List()
	again, _ := r.List()
	for i := range first {
		first[i] = "z"
	}
	first = append(first[:1], "y")
	_ = append(first[:0], "a", "a", "a", "a", "a")
	if !slices.Equal(again, []string{"a", "b", "c"}) {
		t.Errorf("the other list is %q", again)
	}
	wantObjects(t, r, all)
	l, _ := r.List()
	clear(l)
	want(t, "Put", r.Put("aa", "4"), api.OK)
	want(t, "Delete", r.Delete("b"), api.OK)
	wantObjects(t, r, objects{"a": "1", "aa": "4", "c": "3"})
}

func TestAListStaysAsItWas(t *testing.T) {
	r := with(t, objects{"b": "", "c": "", "d": ""})
	l, _ := r.List()
	r.Put("a", "")
	r.Delete("c")
	r.PutNew("e", "")
	if !slices.Equal(l, []string{"b", "c", "d"}) {
		t.Errorf("an earlier list became %q", l)
	}
}

func TestWhatWasGotStaysAsItWas(t *testing.T) {
	r := with(t, before())
	b, _ := r.Get("a")
	r.Put("a", "3")
	if b != "1" {
		t.Errorf("the bytes became %q", b)
	}
	r.Delete("a")
	r.Put("a", "4")
	if b != "1" {
		t.Errorf("the bytes became %q", b)
	}
}

// P7.3

func TestARepeatedPutNewShowsWhetherTheFirstTookEffect(t *testing.T) {
	for _, name := range []string{"", "a", "m000001"} {
		for _, b := range []string{"", "x", strings.Repeat("x", 1000)} {
			r := remote.New()
			r.Script([]int{remote.Late})
			want(t, "late", r.PutNew(name, b), api.ErrFar)
			want(t, "repeated", r.PutNew(name, b), api.ErrTwice)
			wantObjects(t, r, objects{name: b})

			r = remote.New()
			r.Script([]int{remote.Lost})
			want(t, "lost", r.PutNew(name, b), api.ErrFar)
			want(t, "repeated", r.PutNew(name, b), api.OK)
			wantObjects(t, r, objects{name: b})
			want(t, "once more", r.PutNew(name, b+"y"), api.ErrTwice)
			wantObjects(t, r, objects{name: b})
		}
	}
}

func TestAPutNewRepeatedUntilItAnswers(t *testing.T) {
	for n := range 81 {
		// The digits of n to the base 3 are the fates; the first that is not Lost takes effect.
		script := []int{n % 3, n / 3 % 3, n / 9 % 3, n / 27 % 3}
		r := remote.New()
		r.Script(script)
		effect := false
		for i, fate := range append(script, 0) {
			wanted := api.OK
			switch {
			case fate != 0:
				wanted = api.ErrFar
			case effect:
				wanted = api.ErrTwice
			}
			want(t, fmt.Sprintf("call %d of %d", i, script), r.PutNew("a", "x"), wanted)
			effect = effect || fate != 1
		}
		wantObjects(t, r, objects{"a": "x"})
	}
}

func TestALatePutNewDoesNotReplace(t *testing.T) {
	r := with(t, before())
	r.Script([]int{remote.Late, remote.Late})
	want(t, "PutNew", r.PutNew("a", "3"), api.ErrFar)
	want(t, "PutNew", r.PutNew("a", "4"), api.ErrFar)
	want(t, "PutNew", r.PutNew("a", "5"), api.ErrTwice)
	wantObjects(t, r, before())
}

func TestAnObjectIsWhatOneCallHasPut(t *testing.T) {
	random := rand.New(rand.NewPCG(5, 6))
	for range 100 {
		r := remote.New()
		put := map[string][]string{"": nil, "a": nil, "b": nil}
		l := slices.Sorted(maps.Keys(put))
		for i := range 100 {
			name, fate := l[random.IntN(len(l))], random.IntN(3)
			b := strings.Repeat(fmt.Sprint(i, " "), random.IntN(20))
			r.Script([]int{fate})
			if random.IntN(2) == 0 {
				r.Put(name, b)
			} else {
				r.PutNew(name, b)
			}
			if fate != remote.Lost {
				put[name] = append(put[name], b)
			}
			for _, name := range l {
				got, err := r.Get(name)
				if (err == api.OK) != (len(put[name]) > 0) || err == api.OK && !slices.Contains(put[name], got) {
					t.Fatalf("Get(%q) = %q, %d; what was put: %q", name, got, err, put[name])
				}
			}
		}
	}
}

// Runs of calls, compared with the plain remote.

// same complains if a remote and its plain counterpart differ in a result, or in the end.
func same(t *testing.T, l []call) {
	t.Helper()
	r, p := remote.New(), &plainRemote{}
	for i, c := range l {
		if got, wanted := c.on(r), c.on(p); got != wanted {
			t.Fatalf("call %d of %+v: %s, want %s", i, l, got, wanted)
		}
		if r.Calls() != p.Calls() {
			t.Fatalf("%d calls behind call %d of %+v, want %d", r.Calls(), i, l, p.Calls())
		}
	}
	if got, wanted := contents(r), contents(p); got != wanted {
		t.Fatalf("behind %+v: %s, want %s", l, got, wanted)
	}
}

func TestAllShortRuns(t *testing.T) {
	calls := []call{
		{kind: "Put", name: "a", b: "1"}, {kind: "Put", name: "a", b: "22"}, {kind: "Put"}, {kind: "PutNew", name: "a", b: "3"}, {kind: "PutNew", b: "4"},
		{kind: "Get", name: "a"}, {kind: "Get"}, {kind: "Delete", name: "a"}, {kind: "Delete"}, {kind: "List"},
	}
	for n := range 27 {
		script := call{kind: "Script", script: []int{n % 3, n / 3 % 3, n / 9}}
		for _, a := range calls {
			for _, b := range calls {
				for _, c := range calls {
					same(t, []call{script, a, b, c})
				}
			}
		}
	}
}

func anyScript(r *rand.Rand) []int {
	l := make([]int, r.IntN(8))
	for i := range l {
		l[i] = r.IntN(4)
		if r.IntN(5) == 0 {
			l[i] = others()[r.IntN(len(others()))]
		}
	}
	return l
}

func anyCall(r *rand.Rand) call {
	kinds := []string{"Put", "PutNew", "Get", "Delete", "List", "Script"}
	c := call{kind: kinds[r.IntN(len(kinds))], name: names()[r.IntN(6)]}
	switch c.kind {
	case "Put", "PutNew":
		c.b = "0123456789abcdef"[:r.IntN(17)]
	case "Script":
		c.script = anyScript(r)
	}
	return c
}

func TestRunsOfCalls(t *testing.T) {
	r := rand.New(rand.NewPCG(7, 8))
	for range 500 {
		var l []call
		for range r.IntN(300) {
			l = append(l, anyCall(r))
		}
		same(t, l)
	}
}

func TestRunsOfCallsLookedAtBehindEach(t *testing.T) {
	r := rand.New(rand.NewPCG(9, 10))
	for range 40 {
		var l []call
		for range 60 {
			l = append(l, anyCall(r))
			same(t, l)
		}
	}
}

func TestTheSameCallsHaveTheSameResults(t *testing.T) {
	random := rand.New(rand.NewPCG(11, 12))
	var l []call
	for range 1000 {
		l = append(l, anyCall(random))
	}
	first := remote.New()
	var results []string
	for _, c := range l {
		results = append(results, c.on(first))
	}
	results = append(results, contents(first))
	for range 5 {
		again := remote.New()
		for i, c := range l {
			if got := c.on(again); got != results[i] {
				t.Fatalf("call %d: %s; the first time %s", i, got, results[i])
			}
		}
		if got := contents(again); got != results[len(l)] {
			t.Fatalf("in the end %s; the first time %s", got, results[len(l)])
		}
	}
}

// decoded are calls that bytes stand for, three bytes each.
func decoded(b []byte) []call {
	kinds := []string{"Put", "PutNew", "Get", "Delete", "List", "Script"}
	var l []call
	for ; len(b) >= 3; b = b[3:] {
		c := call{kind: kinds[int(b[0])%len(kinds)], name: names()[int(b[1])%len(names())]}
		switch c.kind {
		case "Put", "PutNew":
			c.b = "0123456789abcdef"[:b[2]%17]
		case "Script":
			c.script = []int{int(int8(b[1])), int(b[2] % 4), int(b[2] >> 2 % 4), int(b[2] >> 4 % 4)}[:b[0]>>4%5]
		}
		l = append(l, c)
	}
	return l
}

func FuzzCalls(f *testing.F) {
	f.Add([]byte("\x35\x02\x09\x00\x01\x02\x01\x01\x03\x02\x01\x00\x03\x01\x00\x04\x00\x00"))
	f.Add([]byte("\x01\x00\x05\x45\x01\x06\x01\x00\x07\x02\x00\x00\x05\x00\x00\x04\x00\x00"))
	f.Fuzz(func(t *testing.T, b []byte) {
		same(t, decoded(b[:min(len(b), 900)]))
	})
}
