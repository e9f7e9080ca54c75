package why

import (
	"errors"
	"fmt"
	"math"
	"slices"
	"strings"
	"testing"

	"vizard/api"
)

// errnos: all errors of api's but OK, each with its reason.
var errnos = []struct {
	e      api.Errno
	reason int
}{
	{api.ErrForm, 1}, {api.ErrRange, 1}, {api.ErrEnd, 1}, {api.ErrSum, 2}, {api.ErrKind, 16}, {api.ErrVersion, 3}, {api.ErrThere, 1},
	{api.ErrNone, 1}, {api.ErrFull, 11}, {api.ErrState, 9}, {api.ErrFrag, 5}, {api.ErrOption, 4}, {api.ErrOld, 19},
}

// strange: numbers of Errno that are none of api's constants.
var strange = []api.Errno{math.MinInt, -10, -1, 1, 9, 23, 99, math.MaxInt}

// noReasons: numbers below the first reason, and above the last one.
var noReasons = []int{math.MinInt, math.MinInt + 1, -19, -1, 0, 20, 21, 256 + 1, math.MaxInt - 1, math.MaxInt}

var listed = []string{"form", "sum", "version", "option", "frag", "ttl", "route", "filter", "state", "ports", "full", "wait", "buffer", "ring", "host", "kind", "local", "self", "old"}

// foreign is an error that wraps another one, and is no fault.
type foreign struct{ err error }

func (f foreign) Error() string { return "foreign" }
func (f foreign) Unwrap() error { return f.err }

// many is an error that can't be compared, and wraps several, some of them nil.
type many []error

func (m many) Error() string   { return "many" }
func (m many) Unwrap() []error { return m }

// tell holds all that is to be seen of an error against what is wanted.
func tell(t *testing.T, name string, err error, reason int, all []int, e api.Errno) {
	t.Helper()
	if n := Reason(err); n != reason {
		t.Errorf("%s: Reason %d; want %d", name, n, reason)
	}
	if list := All(err); !slices.Equal(list, all) {
		t.Errorf("%s: All %v; want %v", name, list, all)
	}
	if x := Errno(err); x != e {
		t.Errorf("%s: Errno %d; want %d", name, x, e)
	}
}

// P2.1, P2.2: a fault of each reason, of each error of api's.
func TestFaultOfEachReason(t *testing.T) {
	for reason := 1; reason <= 19; reason++ {
		for _, c := range errnos {
			err := Fault(reason, c.e)
			if err == nil {
				t.Fatalf("reason %d, error %d: nil", reason, c.e)
			}
			tell(t, fmt.Sprint("Fault ", reason, c.e), err, reason, []int{reason}, c.e)
			if _, bare := err.(api.Errno); bare || errors.Unwrap(err) != error(c.e) {
				t.Errorf("reason %d, error %d: it doesn't wrap the error", reason, c.e)
			}
		}
	}
}

// P2.1: an error of api's type that has no name is wrapped as it is.
func TestFaultOfANumberWithoutName(t *testing.T) {
	for _, e := range strange {
		tell(t, fmt.Sprint("Fault of ", int(e)), Fault(RTtl, e), RTtl, []int{RTtl}, e)
		if !Is(Fault(RTtl, e), e) || Is(Fault(RTtl, e), e+1) {
			t.Errorf("Is of %d", int(e))
		}
	}
}

// P2.1: Fault of OK, of what is no reason, and of both at once.
func TestNoFault(t *testing.T) {
	for reason := 1; reason <= 19; reason++ {
		if err := Fault(reason, api.OK); err != nil {
			t.Errorf("reason %d of OK: %v", reason, err)
		}
	}
	for _, reason := range noReasons {
		for _, e := range []api.Errno{api.OK, api.ErrForm, api.ErrSum, api.ErrOld, 99, -1} {
			if err := Fault(reason, e); err != nil {
				t.Errorf("reason %d, error %d: %v", reason, e, err)
			}
		}
	}
}

// P2.1: Wrap of a fault, of an error of api's, and of any other one.
func TestWrap(t *testing.T) {
	other := errors.New("other")
	for reason := 1; reason <= 19; reason++ {
		tell(t, "a fault", Wrap(Fault(RSum, api.ErrEnd), reason), reason, []int{reason, RSum}, api.ErrEnd)
		tell(t, "an error of api's", Wrap(api.ErrFrag, reason), reason, []int{reason}, api.ErrFrag)
		tell(t, "another error", Wrap(other, reason), reason, []int{reason}, api.ErrForm)
		if !errors.Is(Wrap(other, reason), other) {
			t.Errorf("reason %d: the other error isn't wrapped", reason)
		}
	}
}

// P2.1: Wrap of nil is nil, whatever the reason; with what is no reason it is the error itself.
func TestNoWrap(t *testing.T) {
	for reason := 1; reason <= 19; reason++ {
		if err := Wrap(nil, reason); err != nil {
			t.Errorf("nil, reason %d: %v", reason, err)
		}
	}
	own := &foreign{api.ErrSum}
	for _, reason := range noReasons {
		if err := Wrap(nil, reason); err != nil {
			t.Errorf("nil, reason %d: %v", reason, err)
		}
		for _, err := range []error{own, api.ErrSum, api.OK, Fault(RSum, api.ErrSum), errors.New("other")} {
			if got := Wrap(err, reason); got != err {
				t.Errorf("reason %d: %v; want %v", reason, got, err)
			}
		}
		tell(t, "a fault with no reason", Wrap(Fault(RRing, api.ErrFull), reason), RRing, []int{RRing}, api.ErrFull)
	}
}

// P2.1: to wrap a fault leaves it as it was.
func TestWrapLeavesTheFault(t *testing.T) {
	a := Fault(RSum, api.ErrSum)
	b, c := Wrap(a, RRoute), Wrap(a, ROld)
	tell(t, "inner", a, RSum, []int{RSum}, api.ErrSum)
	tell(t, "first", b, RRoute, []int{RRoute, RSum}, api.ErrSum)
	tell(t, "second", c, ROld, []int{ROld, RSum}, api.ErrSum)
}

// P2.2: what is told of errors of all shapes.
func TestWhatIsInAnError(t *testing.T) {
	other := errors.New("other")
	deep := Wrap(Wrap(Wrap(Fault(RSum, api.ErrSum), RRoute), RRoute), ROld)
	for _, c := range []struct {
		name   string
		err    error
		reason int
		all    []int
		errno  api.Errno
	}{
		{"nil", nil, 0, nil, api.OK},
		{"the chapter's example", Wrap(Fault(RSum, api.ErrSum), RRoute), RRoute, []int{RRoute, RSum}, api.ErrSum},
		{"a row of faults, one reason twice", deep, ROld, []int{ROld, RRoute, RRoute, RSum}, api.ErrSum},
		{"the first and the last reason", Wrap(Fault(ROld, api.ErrNone), RForm), RForm, []int{RForm, ROld}, api.ErrNone},
		{"neither a fault nor one of api's", other, RForm, nil, api.ErrForm},
		{"OK as an error", api.OK, 0, nil, api.OK},
		{"OK that is wrapped", Wrap(api.OK, RTtl), RTtl, []int{RTtl}, api.OK},
		{"a bare number without name", api.Errno(99), RForm, nil, 99},
		{"one of api's in a foreign error", foreign{api.ErrOption}, ROption, nil, api.ErrOption},
		{"a fault in a foreign error", foreign{Fault(RHost, api.ErrOld)}, RHost, []int{RHost}, api.ErrOld},
		{"a foreign error between faults", Wrap(foreign{foreign{deep}}, RSelf), RSelf, []int{RSelf, ROld, RRoute, RRoute, RSum}, api.ErrSum},
		{"a foreign error of another one", foreign{other}, RForm, nil, api.ErrForm},
		{"a foreign error of nil", foreign{nil}, RForm, nil, api.ErrForm},
		{"a fault of a foreign error of nil", Wrap(foreign{nil}, RPorts), RPorts, []int{RPorts}, api.ErrForm},
		{"several at once", errors.Join(other, Wrap(Fault(RSum, api.ErrSum), RWait), Fault(RKind, api.ErrKind)), RWait, []int{RWait, RSum, RKind}, api.ErrSum},
		{"several in several", Wrap(many{nil, many{}, many{Fault(RRing, api.ErrFull), nil, foreign{Fault(RLocal, api.ErrEnd)}}, Fault(RTtl, api.ErrOld)}, RBuffer), RBuffer, []int{RBuffer, RRing, RLocal, RTtl}, api.ErrFull},
		{"several without any", many{nil, other}, RForm, nil, api.ErrForm},
	} {
		tell(t, c.name, c.err, c.reason, c.all, c.errno)
	}
}

// P2.2: an error of api's that stands bare has its own reason, and no fault in it.
func TestBareErrors(t *testing.T) {
	for _, c := range errnos {
		tell(t, fmt.Sprint("bare ", int(c.e)), c.e, c.reason, nil, c.e)
		if !Is(c.e, c.e) || Is(c.e, api.OK) {
			t.Errorf("Is of bare %d", int(c.e))
		}
	}
}

// P2.2: Is finds just the error that is wrapped, however deep.
func TestIs(t *testing.T) {
	for _, c := range errnos {
		for _, err := range []error{c.e, Fault(RWait, c.e), Wrap(Wrap(Fault(RWait, c.e), RTtl), ROld), foreign{c.e}, Wrap(foreign{Fault(RSum, c.e)}, RSum), many{nil, errors.New("other"), Fault(RSum, c.e)}} {
			for _, d := range errnos {
				if Is(err, d.e) != (c.e == d.e) {
					t.Errorf("%v: Is of %d: %v", err, int(d.e), Is(err, d.e))
				}
			}
			for _, e := range append([]api.Errno{api.OK}, strange...) {
				if Is(err, e) {
					t.Errorf("%v: Is of %d", err, int(e))
				}
			}
		}
	}
}

// P2.2: in nil, and in what has none of api's in it, no error of api's is, not even the one that Errno tells.
func TestIsOfNone(t *testing.T) {
	for _, err := range []error{nil, errors.New("other"), Wrap(errors.New("other"), RForm), foreign{nil}, many{}} {
		for _, c := range errnos {
			if Is(err, c.e) {
				t.Errorf("%v: Is of %d", err, int(c.e))
			}
		}
		if Is(err, api.OK) || Is(err, 99) {
			t.Errorf("%v: Is of OK, or of 99", err)
		}
	}
}

// P2.2: the answers of All share no memory, and All changes nothing of what it goes through.
func TestAllIsNew(t *testing.T) {
	row := []error{Fault(RSum, api.ErrSum), Fault(RTtl, api.ErrOld), Fault(RHost, api.ErrEnd)}
	err := Wrap(many(row), RRing)
	first, second := All(err), All(err)
	for i := range first[:cap(first)] {
		first[:cap(first)][i] = -1
	}
	want := []int{RRing, RSum, RTtl, RHost}
	if !slices.Equal(second, want) || !slices.Equal(All(err), want) {
		t.Errorf("%v, %v; want %v", second, All(err), want)
	}
	if Reason(row[0]) != RSum || Reason(row[1]) != RTtl || Reason(row[2]) != RHost {
		t.Error("what the error handed out is changed")
	}
}

// P2.2, P1: a long row of faults is gone through to its end.
func TestLongRow(t *testing.T) {
	const n = 200_000
	err := Fault(RSum, api.ErrSum)
	for i := 1; i < n; i++ {
		err = Wrap(err, i%19+1)
	}
	all := All(err)
	if len(all) != n || all[n-1] != RSum || all[0] != (n-1)%19+1 || Reason(err) != all[0] {
		t.Errorf("%d reasons", len(all))
	}
	if Errno(err) != api.ErrSum || !Is(err, api.ErrSum) || Is(err, api.ErrEnd) {
		t.Error(Errno(err))
	}
	if s := err.Error(); strings.Count(s, ": ") != n || !strings.HasSuffix(s, ": sum: "+api.ErrSum.Error()) {
		t.Errorf("a text of %d signs", len(s))
	}
}

// P2.3: Of.
func TestOf(t *testing.T) {
	if n := Of(api.OK); n != 0 {
		t.Errorf("OK: %d", n)
	}
	for _, c := range errnos {
		if n := Of(c.e); n != c.reason {
			t.Errorf("%d: %d; want %d", int(c.e), n, c.reason)
		}
	}
	for _, e := range strange {
		if n := Of(e); n != RForm {
			t.Errorf("%d: %d; want RForm", int(e), n)
		}
	}
}

// P2.3: the reasons have their numbers.
func TestReasons(t *testing.T) {
	for i, n := range []int{RForm, RSum, RVersion, ROption, RFrag, RTtl, RRoute, RFilter, RState, RPorts, RFull, RWait, RBuffer, RRing, RHost, RKind, RLocal, RSelf, ROld} {
		if n != i+1 {
			t.Errorf("%s: %d; want %d", listed[i], n, i+1)
		}
	}
}

// P2.3: each reason has its word, and each word its reason.
func TestWords(t *testing.T) {
	for i, w := range listed {
		if got := Word(i + 1); got != w {
			t.Errorf("%d: %q; want %q", i+1, got, w)
		}
		if n, ok := Number(w); n != i+1 || !ok {
			t.Errorf("%q: %d, %v; want %d", w, n, ok, i+1)
		}
	}
}

// P2.3: what is no reason has no word, and what is no word no reason.
func TestNoWords(t *testing.T) {
	for _, n := range noReasons {
		if w := Word(n); w != "" {
			t.Errorf("%d: %q", n, w)
		}
	}
	wrong := []string{"", " ", "\x00", "what", "1", "RForm", "ok", "errno 10", "\xff\xfe", "formsum", "form,sum"}
	for _, w := range listed {
		wrong = append(wrong, w+" ", " "+w, w+"\x00", w[1:], w[:len(w)-1], strings.ToUpper(w), strings.ToUpper(w[:1])+w[1:])
	}
	for _, w := range wrong {
		if n, ok := Number(w); n != 0 || ok {
			t.Errorf("%q: %d, %v", w, n, ok)
		}
	}
}

// P1: no call panics, at any numbers and errors, and a fault's own text neither.
func TestEveryCallEnds(t *testing.T) {
	numbers := append([]int{1, 10, 19, 22}, noReasons...)
	for _, n := range numbers {
		Word(n)
		for _, m := range numbers {
			e := api.Errno(m)
			Of(e)
			for _, err := range []error{nil, e, errors.New(""), foreign{nil}, many(nil), many{nil, e}, Fault(n, e)} {
				w := Wrap(err, n)
				if Errno(w) != Errno(err) || Is(w, e) != Is(err, e) || len(All(w)) > len(All(err))+1 {
					t.Errorf("reason %d, error %d in %v", n, m, err)
				}
				if w != nil && !strings.HasSuffix(w.Error(), err.Error()) {
					t.Errorf("reason %d, error %d: %q", n, m, w.Error())
				}
				Reason(w)
			}
		}
	}
}
