package faces

import (
	"testing"

	"verger/api"
)

// The document's words and limits have these numbers in package api.
func TestLimits(t *testing.T) {
	for _, l := range []struct {
		name      string
		got, want int
	}{
		{"NoTag", api.NoTag, 65535},
		{"IOHead", api.IOHead, 24},
		{"RootPath", api.RootPath, 1},
		{"MinMsize", api.MinMsize, 512},
		{"MaxMsize", api.MaxMsize, 65536},
		{"MaxFids", api.MaxFids, 256},
		{"MaxTags", api.MaxTags, 64},
		{"MaxNodes", api.MaxNodes, 4096},
		{"MaxWorkers", api.MaxWorkers, 16},
		{"MaxElems", api.MaxElems, 16},
		{"MaxName", api.MaxName, 255},
		{"MaxUser", api.MaxUser, 32},
		{"MaxFile", api.MaxFile, 65536},
		{"MaxConns", api.MaxConns, 16},
		{"MaxReplies", api.MaxReplies, 128},
		{"MaxOut", api.MaxOut, 16384},
		{"MaxTries", api.MaxTries, 3},
		{"MaxWire", api.MaxWire, 16777216},
		{"the head of a frame: its size, kind and tag", api.HeadSize, 4 + 1 + 2},
		{"the last kind", int(api.Rwstat), 127},
	} {
		if l.got != l.want {
			t.Errorf("%s: %d, want %d", l.name, l.got, l.want)
		}
	}
	if api.Version != "9P2000" {
		t.Errorf("Version: %q", api.Version)
	}
}
