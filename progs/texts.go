package progs

import "strings"

// join is a text of as many parts as there are.
func join(parts ...string) string { return strings.Join(parts, "") }

// Parts call each other by r14, what they call by r13. They have r2 and r3 as what is told,
// r4 as what is looked at, and r5 and r6 for themselves.
const (
	// ends is how a program ends: all right, or because a call has an error.
	ends = `end:
addi r1, r0, 0
sys 0
fail:
addi r1, r0, 1
sys 0
`
	// say tells r3 bytes from r2 on, however few go at once.
	say = `say:
beq r3, r0, said
addi r1, r0, 1
sys 2
blt r1, r0, fail
add r2, r2, r1
sub r3, r3, r1
jal r0, say
said:
jalr r0, 0(r14)
`
	// tell tells the number r4 as a line; its digits are made from behind.
	tell = `tell:
addi r2, r0, behind
addi r3, r0, 1
addi r5, r0, 10
tellmore:
rem r6, r4, r5
div r4, r4, r5
addi r6, r6, 48
addi r2, r2, -1
addi r3, r3, 1
sb r6, 0(r2)
bne r4, r0, tellmore
jal r0, say
`
	digits = `text digits "0123456789"
text behind "\n"
`
	// readLine reads a line, byte by byte, as nothing behind it may be read yet:
	// r10 is how long it is, r11 whether there is one.
	readLine = `readline:
addi r10, r0, 0
addi r11, r0, 0
readmore:
addi r1, r0, 0
addi r2, r0, byte
addi r3, r0, 1
sys 1
blt r1, r0, fail
beq r1, r0, readend
addi r11, r0, 1
lbu r4, byte(r0)
addi r5, r0, 10
beq r4, r5, readend
addi r5, r0, 31
beq r10, r5, readmore
sb r4, line(r10)
addi r10, r10, 1
jal r0, readmore
readend:
jalr r0, 0(r14)
room byte 1
`
	lineRoom = "room line 32\n"
	// next begins with each line; r4 is its first sign.
	next = `next:
jal r14, readline
beq r11, r0, end
lbu r4, line(r0)
addi r9, r0, line
`
	answers = `good:
addi r2, r0, goodtext
addi r3, r0, 3
jal r0, answer
bad:
addi r2, r0, badtext
addi r3, r0, 2
answer:
jal r14, say
jal r0, next
`
	answerTexts = `text goodtext "ok\n"
text badtext "?\n"
`
	// signs are what a sign of a line must be.
	signs = `blank:
addi r5, r0, 32
bne r4, r5, bad
jalr r0, 0(r13)
`
)

const (
	copyBegin = `start:
addi r1, r0, 0
addi r2, r0, buffer
addi r3, r0, 128
sys 1
blt r1, r0, fail
beq r1, r0, end
addi r3, r1, 0
`
	upper = `addi r6, r3, 0
turn:
addi r6, r6, -1
lbu r4, buffer(r6)
addi r4, r4, -97
addi r5, r0, 26
sltu r5, r4, r5
beq r5, r0, turned
addi r4, r4, 65
sb r4, buffer(r6)
turned:
bne r6, r0, turn
`
	copyEnd = `addi r2, r0, buffer
jal r14, say
jal r0, start
`
	copyRoom = "room buffer 128\n"
)

const (
	kvLines = `addi r5, r0, 103
beq r4, r5, get
addi r5, r0, 112
bne r4, r5, bad
addi r5, r0, 5
bne r10, r5, bad
lbu r4, 1(r9)
jal r13, blank
lbu r4, 3(r9)
jal r13, blank
lbu r4, 4(r9)
jal r13, letter
addi r7, r4, 97
lbu r4, 2(r9)
jal r13, letter
sb r7, table(r4)
jal r0, good
get:
addi r5, r0, 3
bne r10, r5, bad
lbu r4, 1(r9)
jal r13, blank
lbu r4, 2(r9)
jal r13, letter
lbu r4, table(r4)
bne r4, r0, known
addi r4, r0, 45
known:
sb r4, reply(r0)
addi r2, r0, reply
addi r3, r0, 2
jal r0, answer
letter:
addi r4, r4, -97
addi r5, r0, 26
sltu r5, r4, r5
beq r5, r0, bad
jalr r0, 0(r13)
`
	kvData = `text reply "-\n"
room table 26
`
)

const (
	// bankBegin opens the accounts (r12), and makes them, if there are none.
	bankBegin = `start:
addi r1, r0, path
addi r2, r0, 9
addi r3, r0, 1
sys 3
blt r1, r0, fail
addi r12, r1, 0
addi r2, r0, all
addi r3, r0, 32
sys 1
blt r1, r0, fail
bne r1, r0, next
addi r4, r0, 100
addi r5, r0, 32
fill:
addi r5, r5, -4
sw r4, all(r5)
bne r5, r0, fill
jal r14, keep
`
	bankLines = `addi r5, r0, 109
beq r4, r5, move
addi r5, r0, 98
beq r4, r5, tellone
addi r5, r0, 1
bne r10, r5, bad
addi r5, r0, 115
beq r4, r5, tellall
addi r5, r0, 121
bne r4, r5, bad
sys 13
blt r1, r0, fail
jal r0, good
tellone:
addi r5, r0, 3
bne r10, r5, bad
lbu r4, 1(r9)
jal r13, blank
lbu r4, 2(r9)
jal r13, account
lw r4, all(r4)
jal r14, tell
jal r0, next
tellall:
addi r4, r0, 0
addi r5, r0, 32
sum:
addi r5, r5, -4
lw r6, all(r5)
add r4, r4, r6
bne r5, r0, sum
jal r14, tell
jal r0, next
move:
addi r5, r0, 7
blt r10, r5, bad
addi r5, r0, 10
blt r5, r10, bad
lbu r4, 1(r9)
jal r13, blank
lbu r4, 3(r9)
jal r13, blank
lbu r4, 5(r9)
jal r13, blank
lbu r4, 2(r9)
jal r13, account
addi r7, r4, 0
lbu r4, 4(r9)
jal r13, account
addi r8, r4, 0
`
	// bankWork reads how much goes from r7 to r8; all accounts are written at once, so that nothing is lost.
	bankWork = `addi r6, r0, 6
addi r3, r0, 0
digit:
lbu r4, line(r6)
addi r4, r4, -48
addi r5, r0, 10
sltu r2, r4, r5
beq r2, r0, bad
mul r3, r3, r5
add r3, r3, r4
addi r6, r6, 1
bne r6, r10, digit
lw r4, all(r7)
sltu r5, r4, r3
bne r5, r0, toolittle
sub r4, r4, r3
sw r4, all(r7)
lw r4, all(r8)
add r4, r4, r3
sw r4, all(r8)
jal r14, keep
jal r0, good
toolittle:
addi r2, r0, notext
addi r3, r0, 3
jal r0, answer
account:
addi r4, r4, -48
addi r5, r0, 8
sltu r5, r4, r5
beq r5, r0, bad
add r4, r4, r4
add r4, r4, r4
jalr r0, 0(r13)
keep:
addi r1, r12, 0
addi r2, r0, 0
sys 12
blt r1, r0, fail
addi r1, r12, 0
addi r2, r0, all
addi r3, r0, 32
sys 2
blt r1, r0, fail
jalr r0, 0(r14)
`
	bankData = `text path "/accounts"
text notext "no\n"
room all 32
`
)

const (
	// shLines begins the program with the open files 0 and 1, and waits for it.
	shLines = `addi r1, r0, path
addi r2, r10, 1
addi r3, r0, 256
sys 6
blt r1, r0, bad
sys 7
blt r1, r0, bad
addi r4, r2, 0
jal r14, tell
jal r0, next
`
	// The line stands directly behind the stroke of its path.
	shData = `text path "/"
text line "................................"
`
)
