import Derived.Test.YtfldcmdhneegmaaGreatDoorX28
import Derived.Test.YtfldcmdhneegmaaGreatDoorX26
set_option maxHeartbeats 4000000
set_option maxRecDepth 1000000
namespace Go.Proofs.YtfldcmdhneegmaaGreatDoor
open Go.RowKit Go.Lib
structure EnvS (w:World):Prop where
 letters:Letters w
 err:ErrType w
 dec:Decodes w
theorem EnvS.below {w w':World}(h:EnvS w)(hb:Below w.heap.size w w'):EnvS w' where
 letters:=fun c W h1 h2 h3=>h.letters c W h1 h2 (hb.trans (h3.mono hb.size))
 err:=cell_below hb h.err
 dec:=h.dec.below hb
theorem EnvS.g {w:World}(h:EnvS w):EnvG w:=⟨h.letters,h.err⟩
end Go.Proofs.YtfldcmdhneegmaaGreatDoor
namespace Go.Proofs.YtfldcmdhneegmaaGreatDoor
open Go.RowKit Go.Lib Go.Shelf
theorem accept_eq:Rows.laid_unicode_utf8_acceptRanges=(acceptData:DataW Unit):=by kernel_rfl
theorem env_list {W:World}(h1:laidMet Tryz.prog [("math/bits.deBruijn32tab",Rows.laid_math_bits_deBruijn32tab),("math/bits.deBruijn64tab",Rows.laid_math_bits_deBruijn64tab),("internal/strconv.uint64pow10",Rows.laid_internal_strconv_uint64pow10),("unicode/utf8.acceptRanges",Rows.laid_unicode_utf8_acceptRanges),("unicode.properties",Rows.laid_unicode_properties),("unicode.Letter",Rows.laid_unicode_Letter),("unicode/utf8.first",Rows.laid_unicode_utf8_first)] W)(h2:handlesMet Tryz.prog [("errors.errorType",Rows.laid_errors_errorType)] W):EnvS W:=by
 have h3:=h1.tail.tail
 refine⟨letters_of (props_of_head h3.tail.tail) (letter_of_reads (laidMet.reads h1 (.tail _ (.tail _ (.tail _ (.tail _ (.tail _ (.head _)))))))),err_of_handles h2,?_⟩
 have r3:VarReads Tryz.prog W "unicode/utf8.first" firstData:=by rw[← Pinned.utf8First_eq];exact laidMet.reads h1 (.tail _ (.tail _ (.tail _ (.tail _ (.tail _ (.tail _ (.head _)))))))
 have r4:VarReads Tryz.prog W "unicode/utf8.acceptRanges" acceptData:=by rw[← accept_eq];exact laidMet.reads h1 (.tail _ (.tail _ (.tail _ (.head _))))
 exact utf8Tabs_of_readsT (ρ:=Tryz.lays197_ren) { Tryz.lays197 with } ⟨by kernel_rfl,by kernel_rfl,by kernel_rfl,by kernel_rfl,by kernel_rfl,by kernel_rfl,by kernel_rfl⟩ r3 r4
end Go.Proofs.YtfldcmdhneegmaaGreatDoor
