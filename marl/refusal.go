package marl

import "marl/api"

// refusal wraps the fault for which a call was refused, to name the call.
type refusal struct {
	call  string
	fault *api.Fault
}

// refuse makes a fault of its own for each error: a caller gets a pointer to
// it, and may write through that.
func refuse(call string, code api.Code) error {
	return &refusal{call: call, fault: &api.Fault{Code: code}}
}

func (r *refusal) Error() string {
	return "marl: " + r.call + ": " + reason(r.fault.Code)
}

func (r *refusal) Unwrap() error { return r.fault }

func reason(code api.Code) string {
	switch code {
	case api.ErrArg:
		return "a number that may not be"
	case api.ErrText:
		return "a text that is too long"
	case api.ErrName:
		return "no name"
	case api.ErrNone:
		return "no such snapshot"
	case api.ErrTwice:
		return "there is such a snapshot already"
	case api.ErrMany:
		return "too many snapshots"
	case api.ErrOrder:
		return "the older one is not older"
	case api.ErrFull:
		return "no cell left"
	}
	return "a fault"
}
