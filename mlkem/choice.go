package mlkem

// What stands here has no branch on what texts say, and looks at all of them: how long it takes does not tell whether somebody closed a text.

// unlike is 255 if two texts of one length are, and 0 if they are not.
func unlike(a, b []byte) byte {
	var parts byte
	for i := range a {
		parts |= a[i] ^ b[i]
	}
	return byte(-int(parts) >> 8)
}

// chosen is yes where which is 255, and no where it is 0; both have one length.
func chosen(which byte, yes, no []byte) []byte {
	out := make([]byte, len(no))
	for i := range out {
		out[i] = no[i] ^ which&(yes[i]^no[i])
	}
	return out
}
