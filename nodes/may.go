package nodes

import (
	"verger/api"
	"verger/wire"
)

const (
	modeBits = api.ModeDir | api.ModeAppend | api.ModeExcl | api.ModeTmp | api.ModePerm
	maskBits = api.MaskMode | api.MaskUid | api.MaskGid | api.MaskMuid | api.MaskAtime | api.MaskMtime | api.MaskBump
)

// maySet tells whether all that a mask names may be as it is in a node. (Times and versions may be anything.)
func maySet(mask api.Mask, want api.Node) bool {
	return mask&^maskBits == 0 &&
		(mask&api.MaskMode == 0 || isMode(want.Mode)) &&
		(mask&api.MaskUid == 0 || isUser(want.Uid)) &&
		(mask&api.MaskGid == 0 || isUser(want.Gid)) &&
		(mask&api.MaskMuid == 0 || isUser(want.Muid))
}

func isMode(mode uint32) bool {
	return mode&^modeBits == 0
}

// isUser tells whether a text may be a user's name, the empty one too.
func isUser(name string) bool {
	return len(name) <= api.MaxUser && wire.Good(name)
}

// isSomebody tells whether it is one that names anybody.
func isSomebody(name string) bool {
	return name != "" && isUser(name)
}
