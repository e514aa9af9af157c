package large

// None of these has a branch, so that how long it takes does not tell a secret number's sign.

func number(n int) int { return (n%q + q) % q }

func centred(n int) int { return number(number(n)+half) - half }

// unsigned takes a number that is centred, and so has at most 24 bits: behind a shift by 31 all are its sign.
func unsigned(n int) int {
	sign := n >> 31
	return (n ^ sign) - sign
}

// product takes numbers from -q to q: theirs has up to 46 bits, where an int may have 32.
func product(a, b int) int { return number(int(int64(a) * int64(b) % q)) }
