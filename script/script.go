// Package script is layer 30: everything by entries (shared/doc/30-script.md).
package script

import "tilefarm/api"

// Decode is described in the chapter.
func Decode(b []byte) (_ []api.Entry) { return }

// Encode is described in the chapter.
func Encode(l []api.Entry) (_ []byte, _ api.Code) { return }

// Run is described in the chapter.
func Run(c api.Config, offers [][]byte, l []api.Entry) (_ []api.Answer, _ api.Stats, _ api.Code) {
	return
}
