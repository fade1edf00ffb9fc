package world

import (
	"gangway/api"
	"gangway/tree"
)

const (
	keyByte  = 0xf1 // that the principals' keys begin with
	seedByte = 0xf2 // that the sealer's seed begins with
	life     = 1000 // of tickets

	openDir   = 61 // modes: with all for the owner, and others may look
	closedDir = 56 // with nothing for others
	openFile  = 60
	ownFile   = 48
	noughts   = 100 // bytes of a file of theirs alone
)

// entries gives the principals, each at the number of its host.
func entries(servers, clients int) []api.Entry {
	names := []string{"krbtgt/" + realm + "@" + realm}
	for _, host := range []string{"s1", "s2"}[:servers] {
		names = append(names, "host/"+host+"@"+realm)
	}
	for _, user := range users()[:clients] {
		names = append(names, user+"@"+realm)
	}
	var list []api.Entry
	for n, name := range names {
		key := api.Key{keyByte}
		key[len(key)-1] = byte(n)
		list = append(list, api.Entry{Name: name, Key: key, Life: life, Flags: api.Forwardable})
	}
	return list
}

// users gives the accounts that each server has, which are the clients' users.
func users() []string { return []string{"ann", "bob"} }

// serverFiles gives the files that a server has at first.
func serverFiles() *tree.Tree {
	t := tree.New()
	t.Mkdir(api.Root, "/users", openDir)
	for _, user := range users() {
		t.Mkdir(api.Root, "/users/"+user, openDir)
		t.Give(api.Root, "/users/"+user, user)
	}
	return t
}

// clientFiles gives the files that a client has.
func clientFiles() *tree.Tree {
	t := tree.New()
	t.Mkdir(api.Root, "/src", openDir)
	t.Write(api.Root, "/src/a", []byte("first"), openFile)
	t.Mkdir(api.Root, "/src/d", closedDir)
	t.Write(api.Root, "/src/d/b", make([]byte, noughts), ownFile)
	t.Write(api.Root, "/one", []byte("alone"), openFile)
	return t
}
