package pack

import (
	"runtime"
	"testing"

	"icehouse/api"
)

func TestCaughtErrors(t *testing.T) {
	if e := caught(nil); e != api.OK {
		t.Errorf("nothing panicked: error %d", e)
	}
	for _, e := range []api.Errno{api.ErrNil, api.ErrForm, api.ErrShort} {
		if got := caught(e); got != e {
			t.Errorf("error %d is caught as %d", e, got)
		}
	}
}

// panicOf returns what a deferred call of caught lets continue.
func panicOf(f func()) (out any) {
	defer func() { out = recover() }()
	defer func() { caught(recover()) }()
	f()
	return nil
}

func TestOtherPanicsContinue(t *testing.T) {
	for _, reason := range []any{"a text", 12, struct{ e api.Errno }{api.ErrShort}} {
		if got := panicOf(func() { panic(reason) }); got != reason {
			t.Errorf("%v continues as %v", reason, got)
		}
	}
	var none []int
	if _, ok := panicOf(func() { none[len(none)] = 1 }).(runtime.Error); !ok {
		t.Error("a fault of the program is lost")
	}
	if got := panicOf(func() { panic(api.ErrShort) }); got != nil {
		t.Errorf("an error continues as %v", got)
	}
}
