"""The texts of the three keepers of webs."""

TABLES = (
    "told tie 2",
    "kept tree 2",
    "kept mid 3",
)

FIRST = (
    "first mid x y z is and same x y same y z",
)

PUT = (
    "put tie",
    "bar not less p q",
)

JOINED = (
    "let new is not mid p q p",
    "set tree x y is or tree x y and new and same x p same y q",
    "set mid x y z is or mid x y z and new or and and mid x p x mid q y q or mid x p z mid q y z "
    "and and mid x q x mid p y p or mid x q z mid p y z",
)

STRIKE = (
    "strike tie",
    "let cut x y z is and mid x y z not and tree p q and mid x y p mid x y q",
    "let over x y is and and tree p q and tie x y not and same x p same y q "
    "or and cut x p x cut q y q and cut x q x cut p y p",
    "let best x y is and over x y not some u some v and over u v or less u x and same u x less v y",
    "set tree x y is or best x y and tree x y not and same x p same y q",
    "set mid x y z is or cut x y z some u some v and or best u v best v u "
    "and and cut x u x cut v y v or cut x u z cut v y z",
)

WEB_ENDS = (
    "answer x y is mid x y x",
    "wish x y is reach x y u v or tie u v tie v u",
)

ODD_TABLE = (
    "kept odd 2",
)

ODD_PUT = (
    "set odd x y is or odd x y and new or "
    "and and mid x p x mid q y q or and odd x p odd q y and not odd x p not odd q y "
    "and and mid x q x mid p y p or and odd x q odd p y and not odd x q not odd p y",
)

ODD_STRIKE = (
    "set odd x y is or and odd x y cut x y x some u some v and or best u v best v u "
    "and and cut x u x cut v y v or and odd x u odd v y and not odd x u not odd v y",
)

ODD_ENDS = (
    "answer is every x every y or not tie x y odd x y",
    "wish is not some x some y and or tie x y tie y x "
    "reach y x u v some w and or tie u w tie w u or tie w v tie v w",
)

LEAST_JOINED = (
    "let far x y is and tree x y and mid p q x mid p q y",
    "let top x y is and far x y not some u some v and far u v or less x u and same x u less y v",
    "let out x y is and top x y or less p x and same p x less q y",
    "let in is or not mid p q p some x some y out x y",
    "let cut x y z is and mid x y z not some u some v and out u v and mid x y u mid x y v",
    "set tree x y is or and tree x y not out x y and in and same x p same y q",
    "set mid x y z is or cut x y z and in or and and cut x p x cut q y q or cut x p z cut q y z "
    "and and cut x q x cut p y p or cut x q z cut p y z",
)

LEAST_ENDS = (
    "answer x y is tree x y",
    "wish x y is and tie x y not reach x y u v and or tie u v tie v u "
    "some a some b and and same a a same b b and or and tie a b and same a u same b v "
    "and tie a b and same a v same b u or less a x and same a x less b y",
)


def web_text():
    """The text of the Keeper of a forest."""
    return "\n".join(TABLES + FIRST + PUT + JOINED + STRIKE + WEB_ENDS)


def side_text():
    """The text of the Keeper of a forest, and of where its ways have an odd number of ties."""
    tables = TABLES + ODD_TABLE + FIRST
    return "\n".join(tables + PUT + JOINED + ODD_PUT + STRIKE + ODD_STRIKE + ODD_ENDS)


def least_text():
    """The text of the Keeper of the least forest."""
    return "\n".join(TABLES + FIRST + PUT + LEAST_JOINED + STRIKE + LEAST_ENDS)
