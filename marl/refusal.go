package marl

import (
	"strconv"

	"marl/api"
)

// refusal wraps the fault for which a call was refused, to name the call.
type refusal struct {
	call  string
	fault *api.Fault
}

// refuse makes a fault of its own for each error: a caller gets a pointer to
// it, and may write through that.
func refuse(call string, code api.Code) error { return refuseAt(call, code, 0) }

func refuseAt(call string, code api.Code, at int) error {
	return &refusal{call: call, fault: &api.Fault{Code: code, At: at}}
}

func (r *refusal) Error() string {
	return "marl: " + r.call + ": " + reason(r.fault)
}

// Unwrap has Broken beside the fault where the stream is at fault.
func (r *refusal) Unwrap() []error {
	if r.fault.Code == api.ErrForm || r.fault.Code == api.ErrSum {
		return []error{r.fault, Broken}
	}
	return []error{r.fault}
}

func reason(fault *api.Fault) string {
	switch fault.Code {
	case api.ErrArg:
		return "a number that may not be"
	case api.ErrText:
		return "a text that is too long"
	case api.ErrName:
		return "no name"
	case api.ErrNone:
		return "no such snapshot"
	case api.ErrTwice:
		return "there is such a snapshot already"
	case api.ErrMany:
		return "too many snapshots"
	case api.ErrOrder:
		return "the older one is not older"
	case api.ErrForm:
		return "no stream, at " + strconv.Itoa(fault.At)
	case api.ErrSum:
		return "a stream with a wrong sum"
	case api.ErrBase:
		return "another base"
	case api.ErrFull:
		return "no cell left"
	}
	return "a fault"
}
