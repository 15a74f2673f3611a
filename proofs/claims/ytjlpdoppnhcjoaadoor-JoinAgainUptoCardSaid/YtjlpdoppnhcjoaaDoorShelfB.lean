/- Contracts of the library at this translation. -/
import Derived.Test.YtjlpdoppnhcjoaaDoorShelf
