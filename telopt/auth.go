package telopt

import (
	"bytes"
	"slices"

	"gangway/api"
)

// Send asks for authentication.
func Send() api.Tel { return about(nil, api.AuthSend, api.AuthKrb, api.AuthBoth) }

// Is tells who the client is.
func Is(body []byte) api.Tel {
	return about(body, api.AuthIs, api.AuthKrb, api.AuthBoth, api.AuthAuth)
}

// Reply accepts, or refuses.
func Reply(accepted bool, body []byte) api.Tel {
	answer := byte(api.AuthNo)
	if accepted {
		answer = api.AuthYes
	}
	return about(body, api.AuthReply, api.AuthKrb, api.AuthBoth, answer)
}

// about gives a part of the option of authentication: a head, and a body behind it.
func about(body []byte, head ...byte) api.Tel {
	return api.Tel{Kind: api.TelSub, Option: api.TelAuth, Data: slices.Concat(head, body)}
}

// Auth tells what a part says of authentication: AuthSend, AuthIs or AuthReply; whether it accepts; its body.
func Auth(t api.Tel) (int, bool, []byte, api.Errno) {
	switch {
	case t.Kind != api.TelSub || t.Option != api.TelAuth:
		return 0, false, nil, api.ErrForm
	case bytes.Equal(t.Data, Send().Data):
		return api.AuthSend, false, nil, api.OK
	}
	for _, said := range [...]struct {
		head    []byte
		what    int
		accepts bool
	}{
		{Is(nil).Data, api.AuthIs, false},
		{Reply(false, nil).Data, api.AuthReply, false},
		{Reply(true, nil).Data, api.AuthReply, true},
	} {
		if body, begins := bytes.CutPrefix(t.Data, said.head); begins {
			return said.what, said.accepts, bytes.Clone(body), api.OK
		}
	}
	return 0, false, nil, api.ErrForm
}
