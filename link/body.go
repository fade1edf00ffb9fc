package link

import (
	"gangway/api"
	"gangway/telopt"
)

// IsTelnet tells whether data are telnet's stream: no message begins like that.
func IsTelnet(data []byte) bool { return len(data) > 0 && data[0] == api.TelIAC }

// Bodies gives what may be a message in data that have come: all of them; or, of telnet's stream, the body of each part that says what is looked for.
func Bodies(data []byte, what int) [][]byte {
	if !IsTelnet(data) {
		return [][]byte{data}
	}
	var list [][]byte
	parts, _ := telopt.NewReader().Feed(data) // none, if there is an error anywhere
	for _, p := range parts {
		if said, _, body, e := telopt.Auth(p); e == api.OK && said == what {
			list = append(list, body)
		}
	}
	return list
}
