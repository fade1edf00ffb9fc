package world_test

import (
	"unsafe"

	"gangway/probe"
)

// spoilText writes over a text's bytes, which must have been made at run time.
func spoilText(s string) { probe.Spoil(unsafe.Slice(unsafe.StringData(s), len(s))) }

// eraser writes over all that has texts in it.
var eraser = probe.Eraser(spoilText)
