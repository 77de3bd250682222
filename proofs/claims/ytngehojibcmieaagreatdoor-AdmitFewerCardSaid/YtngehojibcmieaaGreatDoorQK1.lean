/- What is proved here: what the laws' fixed calls answer. Conditions: the tables hold what their initialisers lay. -/
import Derived.Test.YtngehojibcmieaaGreatDoorQK0
set_option maxRecDepth 100000
set_option maxHeartbeats 8000000
section
namespace Go.Proofs.YtngehojibcmieaaGreatDoor
open Go.ChangeShapes Go.WideShapes Go.RowKit
theorem keepB {W W' : World} {g : Nat} {o : Obj} (hb : Below W.heap.size W W') (h : W.heap[g]? = some o) : W'.heap[g]? = some o := (hb.block g (lt_of_cells h)).trans h
def vdW (t : VdV) : Value := t.v
def imW (x : ImV) : Value := x.v
theorem rowIs_of_blk {W : World} {g : Nat} {c : Array Value} {t : TypeId} (h : W.heap[g]? = some (.cells c t (0, 0))) : W.rowIs g t c.size (fun i => c.getD i undef) := ⟨c, h, rfl, fun i hi => by simp [hi]⟩
theorem co12 : ∀ T ∈ (sP 12).tasks, T.co.length ≤ 1000000 := fun T hT => by
 have : T = ⟨1, 100, 50, 0, [0], [], sCo⟩ ∨ T = ⟨2, 40, 12, 2, [0], [], sCo⟩ := by simpa [sP] using hT
 rcases this with h | h <;> subst h <;> decide
theorem known15_any (w : World) (hN : Nms w) (hH : Kr.Hal w) :
  Calls Tryz.prog 10 #[] w fun e w' => e = .returned (.bool true) ∧ Below w.heap.size w w' := by
 have CS := Lib.hid (fun d W => simple15_any d W)
 have CJ := Lib.hid (fun (x : ImV) m W (hb : Below w.heap.size w W) (hx : x.Is W m) => judge_any x m W hx (hN.below hb))
 have CE := Lib.hid (fun (x : ImV) W (hb : Below w.heap.size w W) (hx : x.Is W (sP 12)) => encode_any x (sP 12) W hx fit12 (hN.below hb) (hH.below hb))
 have CL := Lib.hid (fun s (hs : s.size ≤ 1000000) W (hb : Below w.heap.size w W) => load_any s hs W (hN.below hb) (hH.below hb))
 have CL12 : Hid (∀ W, Below w.heap.size w W → Calls Tryz.prog 18 #[.string (bs (encS (sP 12)))] W fun e w' => ∃ (x : ImV) (t : VdV), e = .returned (.tuple #[x.v, t.v]) ∧ x.Is w' (sP 12) ∧ t.Is w' (jdA (sP 12)) ∧ Below W.heap.size W w') := fun W hb => by
  have h9 := CL.out (bs (encS (sP 12))) len12 W hb
  rw [bs_list, dec12] at h9
  exact h9
 have CLS : Hid (∀ W, Below w.heap.size w W → Calls Tryz.prog 18 #[.string ⟨#[80, 76, 67, 49]⟩] W fun e w' => ∃ (x : ImV) (t : VdV), e = .returned (.tuple #[x.v, t.v]) ∧ x.Is w' noIm ∧ t.Is w' ⟨5, -1, [], [], []⟩ ∧ Below W.heap.size W w') := fun W hb => by
  have h9 := CL.out ⟨#[80, 76, 67, 49]⟩ (by decide) W hb
  have e9 : decM (ByteArray.data ⟨#[80, 76, 67, 49]⟩).toList = (noIm, 5) := decShort
  rw [e9] at h9
  exact h9
 simp only [ImV.v, Sl.v] at CJ CE
 clear hN hH CL
 go_enter Tryz.func10, Tryz.ntmps10
 have HB0 : Hid (Below w.heap.size w w) := Below.refl _ _
 go_upto_region 2 with (first
  | (go_at_call 13; refine (CJ.out ⟨xsw, xla, xcm, xinp, ⟨xsa, xsn, xsc⟩, ⟨xba, xbn, xbc⟩, ⟨xta, xtn, xtc⟩⟩ (sP 12) xw1 (keep_below HB0.out xhb) xhx).mono ?_; rintro e vw2 ⟨⟨ver, vpl, ⟨vra, vrn, vrc⟩, ⟨vaa, van, vac⟩, ⟨vca, vcn, vcc⟩⟩, rfl, vhi, vhb, -⟩; simp only [VdV.v, Sl.v])
  | (go_at_call 25; refine (CS.out 12 w).mono ?_; rintro e xw1 ⟨⟨xsw, xla, xcm, xinp, ⟨xsa, xsn, xsc⟩, ⟨xba, xbn, xbc⟩, ⟨xta, xtn, xtc⟩⟩, rfl, xhx, xhb⟩; simp only [ImV.v, Sl.v]))
 have ab0 : Below w.heap.size w vw2 := keep_below xhb vhb
 have bk0 := Go.Deep.blk_alloc_new vw2 (.cells #[.int .i64 ver, .int .i64 vpl, .slice vra vrn vrc, .slice vaa van vac, .slice vca vcn vcc] 37)
 have ba0 := below_alloc vw2 (.cells #[.int .i64 ver, .int .i64 vpl, .slice vra vrn vrc, .slice vaa van vac, .slice vca vcn vcc] 37)
 have ab1 := keep_below ab0 ba0
 have al : Below vw2.heap.size vw2 (vw2.alloc (.cells #[.int .i64 ver, .int .i64 vpl, .slice vra vrn vrc, .slice vaa van vac, .slice vca vcn vcc] 37)) := ba0
 have iv := vhi.below al
 have HB1 := Lib.hid (keep_below HB0.out ab1)
 obtain ⟨gv, hgv⟩ : ∃ g, g = vw2.heap.size := ⟨_, rfl⟩
 rw [← hgv] at bk0 ⊢
 obtain ⟨W1, hW⟩ : ∃ W, W = (vw2.alloc (.cells #[.int .i64 ver, .int .i64 vpl, .slice vra vrn vrc, .slice vaa van vac, .slice vca vcn vcc] 37)) := ⟨_, rfl⟩
 rw [← hW] at HB1 iv bk0  ⊢
 have kgv := Lib.hid bk0
 have iv := Lib.hid iv
 clear hW al ab0 ab1 ba0 bk0 hgv
 clear vhi xhx xhb vhb
 go_upto_region 3 with (first
  | (go_at_call 13; refine (CJ.out ⟨ysw, yla, ycm, yinp, ⟨ysa, ysn, ysc⟩, ⟨yba, ybn, ybc⟩, ⟨yta, ytn, ytc⟩⟩ (sP 11) yw1 (keep_below HB1.out yhb) yhx).mono ?_; rintro e uw2 ⟨⟨uer, upl, ⟨ura, urn, urc⟩, ⟨uaa, uan, uac⟩, ⟨uca, ucn, ucc⟩⟩, rfl, uhi, uhb, -⟩; simp only [VdV.v, Sl.v])
  | (go_at_call 25; refine (CS.out 11 W1).mono ?_; rintro e yw1 ⟨⟨ysw, yla, ycm, yinp, ⟨ysa, ysn, ysc⟩, ⟨yba, ybn, ybc⟩, ⟨yta, ytn, ytc⟩⟩, rfl, yhx, yhb⟩; simp only [ImV.v, Sl.v]))
 have ab0 : Below W1.heap.size W1 uw2 := keep_below yhb uhb
 have bk0 := Go.Deep.blk_alloc_new uw2 (.cells #[.int .i64 uer, .int .i64 upl, .slice ura urn urc, .slice uaa uan uac, .slice uca ucn ucc] 37)
 have ba0 := below_alloc uw2 (.cells #[.int .i64 uer, .int .i64 upl, .slice ura urn urc, .slice uaa uan uac, .slice uca ucn ucc] 37)
 have ab1 := keep_below ab0 ba0
 have al : Below uw2.heap.size uw2 (uw2.alloc (.cells #[.int .i64 uer, .int .i64 upl, .slice ura urn urc, .slice uaa uan uac, .slice uca ucn ucc] 37)) := ba0
 have iu := uhi.below al
 have kgv := Lib.hid (keepB ab1 kgv.out)
 have iv := Lib.hid (iv.out.below ab1)
 have HB2 := Lib.hid (keep_below HB1.out ab1)
 obtain ⟨gu, hgu⟩ : ∃ g, g = uw2.heap.size := ⟨_, rfl⟩
 rw [← hgu] at bk0 ⊢
 obtain ⟨W2, hW⟩ : ∃ W, W = (uw2.alloc (.cells #[.int .i64 uer, .int .i64 upl, .slice ura urn urc, .slice uaa uan uac, .slice uca ucn ucc] 37)) := ⟨_, rfl⟩
 rw [← hW] at HB2 iu bk0 kgv iv ⊢
 have kgu := Lib.hid bk0
 have iu := Lib.hid iu
 clear hW al ab0 ab1 ba0 bk0 hgu
 clear uhi yhx yhb uhb
 go_upto_region 4 with (go_at_call 13; refine (CJ.out ⟨0, 0, 0, 0, ⟨none, 0, 0⟩, ⟨none, 0, 0⟩, ⟨none, 0, 0⟩⟩ noIm W2 HB2.out (noIm_is _)).mono ?_; rintro e zw2 ⟨⟨zer, zpl, ⟨zra, zrn, zrc⟩, ⟨zaa, zan, zac⟩, ⟨zca, zcn, zcc⟩⟩, rfl, zhi, zhb, -⟩; simp only [VdV.v, Sl.v])
 have ab0 : Below W2.heap.size W2 zw2 := zhb
 have bk0 := Go.Deep.blk_alloc_new zw2 (.cells #[.int .i64 zer, .int .i64 zpl, .slice zra zrn zrc, .slice zaa zan zac, .slice zca zcn zcc] 37)
 have ba0 := below_alloc zw2 (.cells #[.int .i64 zer, .int .i64 zpl, .slice zra zrn zrc, .slice zaa zan zac, .slice zca zcn zcc] 37)
 have ab1 := keep_below ab0 ba0
 have al : Below zw2.heap.size zw2 (zw2.alloc (.cells #[.int .i64 zer, .int .i64 zpl, .slice zra zrn zrc, .slice zaa zan zac, .slice zca zcn zcc] 37)) := ba0
 have iz := zhi.below al
 have kgv := Lib.hid (keepB ab1 kgv.out)
 have iv := Lib.hid (iv.out.below ab1)
 have kgu := Lib.hid (keepB ab1 kgu.out)
 have iu := Lib.hid (iu.out.below ab1)
 have HB3 := Lib.hid (keep_below HB2.out ab1)
 obtain ⟨gz, hgz⟩ : ∃ g, g = zw2.heap.size := ⟨_, rfl⟩
 rw [← hgz] at bk0 ⊢
 obtain ⟨W3, hW⟩ : ∃ W, W = (zw2.alloc (.cells #[.int .i64 zer, .int .i64 zpl, .slice zra zrn zrc, .slice zaa zan zac, .slice zca zcn zcc] 37)) := ⟨_, rfl⟩
 rw [← hW] at HB3 iz bk0 kgv iv kgu iu ⊢
 have kgz := Lib.hid bk0
 have iz := Lib.hid iz
 clear hW al ab0 ab1 ba0 bk0 hgz
 clear zhi zhb
 go_upto_region 5 with (first
  | (go_at_call 18; refine (CL12.out ew (keep_below (keep_below HB3.out qhb) ehb)).mono ?_; rintro e tw2 ⟨⟨jsw, jla, jcm, jinp, ⟨jsa, jsn, jsc⟩, ⟨jba, jbn, jbc⟩, ⟨jta, jtn, jtc⟩⟩, ⟨ter, tpl, ⟨tra, trn, trc⟩, ⟨taa, tan, tac⟩, ⟨tca, tcn, tcc⟩⟩, rfl, jhx, thi, thb⟩; simp only [ImV.v, VdV.v, Sl.v])
  | (go_at_call 26; refine (CE.out ⟨qsw, qla, qcm, qinp, ⟨qsa, qsn, qsc⟩, ⟨qba, qbn, qbc⟩, ⟨qta, qtn, qtc⟩⟩ qw1 (keep_below HB3.out qhb) qhx).mono ?_; rintro e ew ⟨rfl, ehb⟩)
  | (go_at_call 25; refine (CS.out 12 W3).mono ?_; rintro e qw1 ⟨⟨qsw, qla, qcm, qinp, ⟨qsa, qsn, qsc⟩, ⟨qba, qbn, qbc⟩, ⟨qta, qtn, qtc⟩⟩, rfl, qhx, qhb⟩; simp only [ImV.v, Sl.v]))
 have ab0 : Below W3.heap.size W3 tw2 := keep_below (keep_below qhb ehb) thb
 have bk0 := Go.Deep.blk_alloc_new tw2 (.cells #[.int .i64 jsw, .int .i64 jla, .int .i64 jcm, .int .i64 jinp, .slice jsa jsn jsc, .slice jba jbn jbc, .slice jta jtn jtc] 26)
 have ba0 := below_alloc tw2 (.cells #[.int .i64 jsw, .int .i64 jla, .int .i64 jcm, .int .i64 jinp, .slice jsa jsn jsc, .slice jba jbn jbc, .slice jta jtn jtc] 26)
 have ab1 := keep_below ab0 ba0
 have bk1 := Go.Deep.blk_alloc_new (tw2.alloc (.cells #[.int .i64 jsw, .int .i64 jla, .int .i64 jcm, .int .i64 jinp, .slice jsa jsn jsc, .slice jba jbn jbc, .slice jta jtn jtc] 26)) (.cells #[.int .i64 ter, .int .i64 tpl, .slice tra trn trc, .slice taa tan tac, .slice tca tcn tcc] 37)
 have ba1 := below_alloc (tw2.alloc (.cells #[.int .i64 jsw, .int .i64 jla, .int .i64 jcm, .int .i64 jinp, .slice jsa jsn jsc, .slice jba jbn jbc, .slice jta jtn jtc] 26)) (.cells #[.int .i64 ter, .int .i64 tpl, .slice tra trn trc, .slice taa tan tac, .slice tca tcn tcc] 37)
 have ab2 := keep_below ab1 ba1
 have al : Below tw2.heap.size tw2 ((tw2.alloc (.cells #[.int .i64 jsw, .int .i64 jla, .int .i64 jcm, .int .i64 jinp, .slice jsa jsn jsc, .slice jba jbn jbc, .slice jta jtn jtc] 26)).alloc (.cells #[.int .i64 ter, .int .i64 tpl, .slice tra trn trc, .slice taa tan tac, .slice tca tcn tcc] 37)) := keep_below ba0 ba1
 have bk0 := keepB ba1 bk0
 rw [show (tw2.alloc (.cells #[.int .i64 jsw, .int .i64 jla, .int .i64 jcm, .int .i64 jinp, .slice jsa jsn jsc, .slice jba jbn jbc, .slice jta jtn jtc] 26)).heap.size = tw2.heap.size + 1 by simp] at bk1
 have ij := jhx.below al
 have it := thi.below al
 have kgv := Lib.hid (keepB ab2 kgv.out)
 have iv := Lib.hid (iv.out.below ab2)
 have kgu := Lib.hid (keepB ab2 kgu.out)
 have iu := Lib.hid (iu.out.below ab2)
 have kgz := Lib.hid (keepB ab2 kgz.out)
 have iz := Lib.hid (iz.out.below ab2)
 have HB4 := Lib.hid (keep_below HB3.out ab2)
 obtain ⟨gj, hgj⟩ : ∃ g, g = tw2.heap.size := ⟨_, rfl⟩
 obtain ⟨gt, hgt⟩ : ∃ g, g = tw2.heap.size + 1 := ⟨_, rfl⟩
 rw [← hgt] at bk1 ⊢
 rw [← hgj] at bk0 ⊢
 obtain ⟨W4, hW⟩ : ∃ W, W = ((tw2.alloc (.cells #[.int .i64 jsw, .int .i64 jla, .int .i64 jcm, .int .i64 jinp, .slice jsa jsn jsc, .slice jba jbn jbc, .slice jta jtn jtc] 26)).alloc (.cells #[.int .i64 ter, .int .i64 tpl, .slice tra trn trc, .slice taa tan tac, .slice tca tcn tcc] 37)) := ⟨_, rfl⟩
 rw [← hW] at HB4 ij it bk0 bk1 kgv iv kgu iu kgz iz ⊢
 have kgj := Lib.hid bk0
 have kgt := Lib.hid bk1
 have ij := Lib.hid ij
 have it := Lib.hid it
 clear hW al ab0 ab1 ab2 ba0 ba1 bk0 bk1 hgj hgt
 clear jhx thi thb qhx qhb ehb
 go_upto_region 6 with (go_at_call 18; refine (CLS.out W4 HB4.out).mono ?_; rintro e sw2 ⟨⟨msw, mla, mcm, minp, ⟨msa, msn, msc⟩, ⟨mba, mbn, mbc⟩, ⟨mta, mtn, mtc⟩⟩, ⟨ser, spl, ⟨sra, srn, src⟩, ⟨saa, san, sac⟩, ⟨sca, scn, scc⟩⟩, rfl, -, shi, shb⟩; simp only [ImV.v, VdV.v, Sl.v])
 have ab0 : Below W4.heap.size W4 sw2 := shb
 have bk0 := Go.Deep.blk_alloc_new sw2 (.cells #[.int .i64 msw, .int .i64 mla, .int .i64 mcm, .int .i64 minp, .slice msa msn msc, .slice mba mbn mbc, .slice mta mtn mtc] 26)
 have ba0 := below_alloc sw2 (.cells #[.int .i64 msw, .int .i64 mla, .int .i64 mcm, .int .i64 minp, .slice msa msn msc, .slice mba mbn mbc, .slice mta mtn mtc] 26)
 have ab1 := keep_below ab0 ba0
 have bk1 := Go.Deep.blk_alloc_new (sw2.alloc (.cells #[.int .i64 msw, .int .i64 mla, .int .i64 mcm, .int .i64 minp, .slice msa msn msc, .slice mba mbn mbc, .slice mta mtn mtc] 26)) (.cells #[.int .i64 ser, .int .i64 spl, .slice sra srn src, .slice saa san sac, .slice sca scn scc] 37)
 have ba1 := below_alloc (sw2.alloc (.cells #[.int .i64 msw, .int .i64 mla, .int .i64 mcm, .int .i64 minp, .slice msa msn msc, .slice mba mbn mbc, .slice mta mtn mtc] 26)) (.cells #[.int .i64 ser, .int .i64 spl, .slice sra srn src, .slice saa san sac, .slice sca scn scc] 37)
 have ab2 := keep_below ab1 ba1
 have al : Below sw2.heap.size sw2 ((sw2.alloc (.cells #[.int .i64 msw, .int .i64 mla, .int .i64 mcm, .int .i64 minp, .slice msa msn msc, .slice mba mbn mbc, .slice mta mtn mtc] 26)).alloc (.cells #[.int .i64 ser, .int .i64 spl, .slice sra srn src, .slice saa san sac, .slice sca scn scc] 37)) := keep_below ba0 ba1
 have bk0 := keepB ba1 bk0
 rw [show (sw2.alloc (.cells #[.int .i64 msw, .int .i64 mla, .int .i64 mcm, .int .i64 minp, .slice msa msn msc, .slice mba mbn mbc, .slice mta mtn mtc] 26)).heap.size = sw2.heap.size + 1 by simp] at bk1
 have is := shi.below al
 have kgv := Lib.hid (keepB ab2 kgv.out)
 have iv := Lib.hid (iv.out.below ab2)
 have kgu := Lib.hid (keepB ab2 kgu.out)
 have iu := Lib.hid (iu.out.below ab2)
 have kgz := Lib.hid (keepB ab2 kgz.out)
 have iz := Lib.hid (iz.out.below ab2)
 have kgj := Lib.hid (keepB ab2 kgj.out)
 have kgt := Lib.hid (keepB ab2 kgt.out)
 have ij := Lib.hid (ij.out.below ab2)
 have it := Lib.hid (it.out.below ab2)
 have HB5 := Lib.hid (keep_below HB4.out ab2)
 obtain ⟨gm, hgm⟩ : ∃ g, g = sw2.heap.size := ⟨_, rfl⟩
 obtain ⟨gs, hgs⟩ : ∃ g, g = sw2.heap.size + 1 := ⟨_, rfl⟩
 rw [← hgs] at bk1 ⊢
 rw [← hgm] at bk0 ⊢
 obtain ⟨W5, hW⟩ : ∃ W, W = ((sw2.alloc (.cells #[.int .i64 msw, .int .i64 mla, .int .i64 mcm, .int .i64 minp, .slice msa msn msc, .slice mba mbn mbc, .slice mta mtn mtc] 26)).alloc (.cells #[.int .i64 ser, .int .i64 spl, .slice sra srn src, .slice saa san sac, .slice sca scn scc] 37)) := ⟨_, rfl⟩
 rw [← hW] at HB5 is bk0 bk1 kgv iv kgu iu kgz iz kgj kgt ij it ⊢
 have kgm := Lib.hid bk0
 have kgs := Lib.hid bk1
 have is := Lib.hid is
 clear hW al ab0 ab1 ab2 ba0 ba1 bk0 bk1 hgm hgs
 clear shi shb
 have lu := iu.out
 rw [jd11] at lu
 obtain ⟨lu1, lu2, lu3, lu4, lu5⟩ := lu
 have eer : uer = 13 := lu1
 have epl : upl = 1 := lu2
 have ern : urn = 2 := lu3.1
 have ean : uan = 0 := lu4.1
 have ecn : ucn = 1 := lu5.1
 clear lu1 lu2 lu3 lu4 lu5
 subst eer epl ern ean ecn
 have lu := iz.out
 rw [jd00] at lu
 obtain ⟨lu1, lu2, lu3, lu4, lu5⟩ := lu
 have eer : zer = 12 := lu1
 have epl : zpl = (-1) := lu2
 clear lu1 lu2 lu3 lu4 lu5
 subst eer epl
 have lu := is.out
 obtain ⟨lu1, lu2, lu3, lu4, lu5⟩ := lu
 have eer : ser = 5 := lu1
 have epl : spl = (-1) := lu2
 clear lu1 lu2 lu3 lu4 lu5
 subst eer epl
 go_upto_region 7 with (fail)
 have bkA := Go.Deep.blk_alloc_new W5 (.cells #[.int .i64 14, .int .i64 12] 3)
 have bkB := Go.Deep.blk_alloc_new (W5.alloc (.cells #[.int .i64 14, .int .i64 12] 3)) (.cells #[.int .i64 2] 3)
 have bkW := Go.Deep.blk_alloc_new ((W5.alloc (.cells #[.int .i64 14, .int .i64 12] 3)).alloc (.cells #[.int .i64 2] 3)) (.cells #[.int .i64 0, .int .i64 (-1), .slice none 0 0, .slice (some ⟨W5.heap.size, 0, none⟩) 2 2, .slice (some ⟨W5.heap.size + 1, 0, none⟩) 1 1] 33)
 have a1 := below_alloc W5 (.cells #[.int .i64 14, .int .i64 12] 3)
 have a2 := below_alloc (W5.alloc (.cells #[.int .i64 14, .int .i64 12] 3)) (.cells #[.int .i64 2] 3)
 have a3 := below_alloc ((W5.alloc (.cells #[.int .i64 14, .int .i64 12] 3)).alloc (.cells #[.int .i64 2] 3)) (.cells #[.int .i64 0, .int .i64 (-1), .slice none 0 0, .slice (some ⟨W5.heap.size, 0, none⟩) 2 2, .slice (some ⟨W5.heap.size + 1, 0, none⟩) 1 1] 33)
 rw [show (W5.alloc (.cells #[.int .i64 14, .int .i64 12] 3)).heap.size = W5.heap.size + 1 by simp] at bkB
 rw [show ((W5.alloc (.cells #[.int .i64 14, .int .i64 12] 3)).alloc (.cells #[.int .i64 2] 3)).heap.size = W5.heap.size + 1 + 1 by simp] at bkW
 have kA := Lib.hid (keepB a3 (keepB a2 bkA))
 have kB := Lib.hid (keepB a3 bkB)
 have kW := Lib.hid bkW
 have ab6 := Lib.hid (keep_below (keep_below a1 a2) a3)
 clear a1 a2 a3 bkA bkB bkW
 obtain ⟨W6, hW⟩ : ∃ W, W = (((W5.alloc (.cells #[.int .i64 14, .int .i64 12] 3)).alloc (.cells #[.int .i64 2] 3)).alloc (.cells #[.int .i64 0, .int .i64 (-1), .slice none 0 0, .slice (some ⟨W5.heap.size, 0, none⟩) 2 2, .slice (some ⟨W5.heap.size + 1, 0, none⟩) 1 1] 33)) := ⟨_, rfl⟩
 rw [← hW] at kA kB kW ab6 ⊢
 clear hW
 have bkR := Go.Deep.blk_alloc_new W6 (.cells #[.int .i64 7, .int .i64 0, .int .i64 100, .int .i64 50, .int .i64 0, .int .i64 1, .int .i64 7, .int .i64 3, .int .i64 40, .int .i64 12, .int .i64 2, .int .i64 2] 62)
 have a4 := Lib.hid (below_alloc W6 (.cells #[.int .i64 7, .int .i64 0, .int .i64 100, .int .i64 50, .int .i64 0, .int .i64 1, .int .i64 7, .int .i64 3, .int .i64 40, .int .i64 12, .int .i64 2, .int .i64 2] 62))
 have hR : Kd.RowS (W6.alloc (.cells #[.int .i64 7, .int .i64 0, .int .i64 100, .int .i64 50, .int .i64 0, .int .i64 1, .int .i64 7, .int .i64 3, .int .i64 40, .int .i64 12, .int .i64 2, .int .i64 2] 62)) (some ⟨W6.heap.size, 0, none⟩) 2 [⟨7, 0, 100, 50, 0, 1⟩, ⟨7, 3, 40, 12, 2, 2⟩] := by
  refine ⟨rfl, fun _ => ⟨W6.heap.size, 0, rfl, lt_of_cells bkR, fun i hi => ?_⟩⟩
  match i, hi with
  | 0, _ =>
   refine ⟨_, rfl, fun j v hj => one_cells bkR _ _ ?_⟩
   match j, hj with
   | 0, hj => exact hj
   | 1, hj => exact hj
   | 2, hj => exact hj
   | 3, hj => exact hj
   | 4, hj => exact hj
   | 5, hj => exact hj
  | 1, _ =>
   refine ⟨_, rfl, fun j v hj => one_cells bkR _ _ ?_⟩
   match j, hj with
   | 0, hj => exact hj
   | 1, hj => exact hj
   | 2, hj => exact hj
   | 3, hj => exact hj
   | 4, hj => exact hj
   | 5, hj => exact hj
 have CP := Lib.hid (Kd.plain_any (some ⟨W6.heap.size, 0, none⟩) 2 2 _ _ hR (by omega))
 clear hR bkR
 go_upto_region 8 with (go_at_call 27; refine CP.out.mono ?_; rintro e w9 ⟨pa, pc, rfl, phr, phb⟩; have b9 := keep_below a4.out phb; have kW9 := keepB b9 kW.out; have c82 := one_cells kW9 2 _ rfl; have f82 := Lib.frozen_of_heap kW9 2)
 have hz5 := ab6.out.size
 have hz5a := lt_of_cells kA.out
 have k7 : Kep (W5.heap.size + 1 + 1) w9 (w9.setCell ⟨W5.heap.size + 1 + 1, 2, none⟩ (.slice pa 2 pc)) := Kep.set _ 2 _ _
 have kw7 : (w9.setCell ⟨W5.heap.size + 1 + 1, 2, none⟩ (.slice pa 2 pc)).heap[W5.heap.size + 1 + 1]? = some (.cells #[.int .i64 0, .int .i64 (-1), .slice pa 2 pc, .slice (some ⟨W5.heap.size, 0, none⟩) 2 2, .slice (some ⟨W5.heap.size + 1, 0, none⟩) 1 1] 33 (0, 0)) := by simp [World.setCell, Array.getElem?_modify, kW9]
 have kA7 : (w9.setCell ⟨W5.heap.size + 1 + 1, 2, none⟩ (.slice pa 2 pc)).heap[W5.heap.size]? = _ := (k7.block _ (lt_of_cells (keepB b9 kA.out)) (by omega)).trans (keepB b9 kA.out)
 have kB7 : (w9.setCell ⟨W5.heap.size + 1 + 1, 2, none⟩ (.slice pa 2 pc)).heap[W5.heap.size + 1]? = _ := (k7.block _ (lt_of_cells (keepB b9 kB.out)) (by omega)).trans (keepB b9 kB.out)
 have rS7 := rowS_kep phr k7 (rowS_apart5 (rowIs_of_blk kW9) phr)
 have ab7 : Below W5.heap.size W5 (w9.setCell ⟨W5.heap.size + 1 + 1, 2, none⟩ (.slice pa 2 pc)) := (keep_below ab6.out b9).trans (k7.below (by omega) (keep_below ab6.out b9).size)
 have iw : VdV.Is (w9.setCell ⟨W5.heap.size + 1 + 1, 2, none⟩ (.slice pa 2 pc)) ⟨0, -1, ⟨pa, 2, pc⟩, ⟨some ⟨W5.heap.size, 0, none⟩, 2, 2⟩, ⟨some ⟨W5.heap.size + 1, 0, none⟩, 1, 1⟩⟩ (jdA (sP 12)) := by
  rw [jd12]
  exact ⟨rfl, rfl, rS7, row_of_blk kA7 rfl rfl, row_of_blk kB7 rfl rfl⟩
 have kgv := Lib.hid (keepB ab7 kgv.out)
 have iv := Lib.hid (iv.out.below ab7)
 have kgu := Lib.hid (keepB ab7 kgu.out)
 have iu := Lib.hid (iu.out.below ab7)
 have kgz := Lib.hid (keepB ab7 kgz.out)
 have iz := Lib.hid (iz.out.below ab7)
 have kgj := Lib.hid (keepB ab7 kgj.out)
 have kgt := Lib.hid (keepB ab7 kgt.out)
 have ij := Lib.hid (ij.out.below ab7)
 have it := Lib.hid (it.out.below ab7)
 have kgm := Lib.hid (keepB ab7 kgm.out)
 have kgs := Lib.hid (keepB ab7 kgs.out)
 have is := Lib.hid (is.out.below ab7)
 have HB7 := Lib.hid (keep_below HB5.out ab7)
 have kw := Lib.hid kw7
 have iw := Lib.hid iw
 clear ab7 rS7 kA7 kB7 kw7 k7 hz5 hz5a kW9 c82 f82 b9 phr phb CP a4 kA kB kW ab6
 obtain ⟨W7, hW⟩ : ∃ W, W = w9.setCell ⟨W5.heap.size + 1 + 1, 2, none⟩ (.slice pa 2 pc) := ⟨_, rfl⟩
 obtain ⟨g8, hg8⟩ : ∃ g, g = W5.heap.size + 1 + 1 := ⟨_, rfl⟩
 obtain ⟨gA, hgA⟩ : ∃ g, g = W5.heap.size := ⟨_, rfl⟩
 obtain ⟨gB, hgB⟩ : ∃ g, g = W5.heap.size + 1 := ⟨_, rfl⟩
 rw [← hW] at HB7 kw iw kgv iv kgu iu kgz iz kgj kgt ij it kgm kgs is ⊢
 rw [← hg8] at kw ⊢
 rw [← hgB] at kw iw ⊢
 rw [← hgA] at kw iw ⊢
 clear hW hg8 hgA hgB HB1 HB2 HB3 HB4 HB5 HB0 CJ CE CL12 CLS
 refine region_w 96 64 (fun i => ([33, 34, 35, 36, 37, 38, 39, 40, 41, 42, 43, 44, 45, 46, 47, 48, 49, 50, 51, 52, 53, 54, 55, 56, 57, 58, 59, 60, 61, 62, 63, 64, 65, 66, 67, 68, 69, 70, 71, 72, 73, 74, 75, 76, 77, 78, 79, 80, 81, 82, 83, 84, 85, 86, 87, 88, 89, 90, 91, 92, 93, 94, 95, 0] : List Nat).getD i 0) (fun i => ([[], [0], [], [1, 2], [3], [4], [4, 5], [4, 6], [4, 7], [8], [9], [9, 10], [9, 11], [9, 12], [13], [14], [14, 15], [14, 16], [14, 17], [14, 18], [19], [20], [20, 21], [20, 22], [20, 23], [20, 24], [25], [26], [26, 27], [26, 28], [26, 29], [26, 30], [31], [32], [32, 33], [32, 34], [32, 35], [36], [37], [37, 38], [37, 39], [37, 40], [41], [42], [42, 43], [42], [42, 44, 45], [42, 46], [47], [48], [48], [48, 49, 50], [48, 51], [52], [53], [53, 54], [53, 55], [53, 56], [57], [58], [58, 59], [58, 60], [58, 61], [62]] : List (List Nat)).getD i []) (fun i v W => ([(fun v _ => v = .agg #[.int .i64 ver, .int .i64 vpl, .slice vra vrn vrc, .slice vaa van vac, .slice vca vcn vcc]), (fun v W => ∃ t : VdV, v = vdW t ∧ t.Is W (jdA (sP 12))), (fun v _ => v = .agg #[.int .i64 0, .int .i64 (-1), .slice pa 2 pc, .slice (some ⟨gA, 0, none⟩) 2 2, .slice (some ⟨gB, 0, none⟩) 1 1]), (fun v _ => v = .bool true), (fun v _ => v = .bool true), (fun v _ => v = .pointer (some ⟨gu, 0, none⟩)), (fun v _ => v = .int .i64 13), (fun v _ => v = .bool true), (fun v _ => v = .bool true), (fun v _ => v = .bool true), (fun v _ => v = .pointer (some ⟨gu, 1, none⟩)), (fun v _ => v = .int .i64 1), (fun v _ => v = .bool true), (fun v _ => v = .bool true), (fun v _ => v = .bool true), (fun v _ => v = .pointer (some ⟨gu, 2, none⟩)), (fun v _ => v = .slice ura 2 urc), (fun v _ => v = .int .i64 (2 : Int)), (fun v _ => v = .bool true), (fun v _ => v = .bool true), (fun v _ => v = .bool true), (fun v _ => v = .pointer (some ⟨gu, 3, none⟩)), (fun v _ => v = .slice uaa 0 uac), (fun v _ => v = .int .i64 (0 : Int)), (fun v _ => v = .bool true), (fun v _ => v = .bool true), (fun v _ => v = .bool true), (fun v _ => v = .pointer (some ⟨gu, 4, none⟩)), (fun v _ => v = .slice uca 1 ucc), (fun v _ => v = .int .i64 (1 : Int)), (fun v _ => v = .bool true), (fun v _ => v = .bool true), (fun v _ => v = .bool true), (fun v _ => v = .pointer (some ⟨gz, 0, none⟩)), (fun v _ => v = .int .i64 12), (fun v _ => v = .bool true), (fun v _ => v = .bool true), (fun v _ => v = .bool true), (fun v _ => v = .pointer (some ⟨gz, 1, none⟩)), (fun v _ => v = .int .i64 (-1)), (fun v _ => v = .bool true), (fun v _ => v = .bool true), (fun v _ => v = .bool true), (fun v _ => v = .agg #[.int .i64 ter, .int .i64 tpl, .slice tra trn trc, .slice taa tan tac, .slice tca tcn tcc]), (fun v W => ∃ t : VdV, v = vdW t ∧ t.Is W (jdA (sP 12))), (fun v _ => v = .agg #[.int .i64 0, .int .i64 (-1), .slice pa 2 pc, .slice (some ⟨gA, 0, none⟩) 2 2, .slice (some ⟨gB, 0, none⟩) 1 1]), (fun v _ => v = .bool true), (fun v _ => v = .bool true), (fun v _ => v = .bool true), (fun v _ => v = .agg #[.int .i64 jsw, .int .i64 jla, .int .i64 jcm, .int .i64 jinp, .slice jsa jsn jsc, .slice jba jbn jbc, .slice jta jtn jtc]), (fun v W => ∃ x : ImV, v = imW x ∧ x.Is W (sP 12)), (fun v _ => v = .bool true), (fun v _ => v = .bool true), (fun v _ => v = .bool true), (fun v _ => v = .pointer (some ⟨gs, 0, none⟩)), (fun v _ => v = .int .i64 5), (fun v _ => v = .bool true), (fun v _ => v = .bool true), (fun v _ => v = .bool true), (fun v _ => v = .pointer (some ⟨gs, 1, none⟩)), (fun v _ => v = .int .i64 (-1)), (fun v _ => v = .bool true), (fun v _ => v = .bool true), (fun v _ => v = .bool true)] : List (Value → World → Prop)).getD i (fun _ _ => False) v W) (fun W => Below W7.heap.size W7 W) (fun _ W W' => Below W.heap.size W W') (by kernel_rfl) rfl (fun i j hi hj => (by decide : ∀ i, i < 64 → ∀ j, j < 64 → (fun i => ([33, 34, 35, 36, 37, 38, 39, 40, 41, 42, 43, 44, 45, 46, 47, 48, 49, 50, 51, 52, 53, 54, 55, 56, 57, 58, 59, 60, 61, 62, 63, 64, 65, 66, 67, 68, 69, 70, 71, 72, 73, 74, 75, 76, 77, 78, 79, 80, 81, 82, 83, 84, 85, 86, 87, 88, 89, 90, 91, 92, 93, 94, 95, 0] : List Nat).getD i 0) i = (fun i => ([33, 34, 35, 36, 37, 38, 39, 40, 41, 42, 43, 44, 45, 46, 47, 48, 49, 50, 51, 52, 53, 54, 55, 56, 57, 58, 59, 60, 61, 62, 63, 64, 65, 66, 67, 68, 69, 70, 71, 72, 73, 74, 75, 76, 77, 78, 79, 80, 81, 82, 83, 84, 85, 86, 87, 88, 89, 90, 91, 92, 93, 94, 95, 0] : List Nat).getD i 0) j → i = j) i hi j hj) rfl ?_ ?_ ?_ ?_ ?_
 ·intro i o ho
  iterate 64 (rcases i with _ | i; (obtain rfl := Option.some.inj ho; exact ⟨Or.inl ⟨rfl, by decide⟩, by decide, by decide⟩))
  simp at ho
 ·intro i j v W W' hi hj hji hr hk
  have hb : Below W.heap.size W W' := hr
  match j, hj, hk with
  | 0, _, hk => exact hk
  | 1, _, hk => exact (by obtain ⟨t, e, h⟩ := hk; exact ⟨t, e, h.below hb⟩)
  | 2, _, hk => exact hk
  | 3, _, hk => exact hk
  | 4, _, hk => exact hk
  | 5, _, hk => exact hk
  | 6, _, hk => exact hk
  | 7, _, hk => exact hk
  | 8, _, hk => exact hk
  | 9, _, hk => exact hk
  | 10, _, hk => exact hk
  | 11, _, hk => exact hk
  | 12, _, hk => exact hk
  | 13, _, hk => exact hk
  | 14, _, hk => exact hk
  | 15, _, hk => exact hk
  | 16, _, hk => exact hk
  | 17, _, hk => exact hk
  | 18, _, hk => exact hk
  | 19, _, hk => exact hk
  | 20, _, hk => exact hk
  | 21, _, hk => exact hk
  | 22, _, hk => exact hk
  | 23, _, hk => exact hk
  | 24, _, hk => exact hk
  | 25, _, hk => exact hk
  | 26, _, hk => exact hk
  | 27, _, hk => exact hk
  | 28, _, hk => exact hk
  | 29, _, hk => exact hk
  | 30, _, hk => exact hk
  | 31, _, hk => exact hk
  | 32, _, hk => exact hk
  | 33, _, hk => exact hk
  | 34, _, hk => exact hk
  | 35, _, hk => exact hk
  | 36, _, hk => exact hk
  | 37, _, hk => exact hk
  | 38, _, hk => exact hk
  | 39, _, hk => exact hk
  | 40, _, hk => exact hk
  | 41, _, hk => exact hk
  | 42, _, hk => exact hk
  | 43, _, hk => exact hk
  | 44, _, hk => exact (by obtain ⟨t, e, h⟩ := hk; exact ⟨t, e, h.below hb⟩)
  | 45, _, hk => exact hk
  | 46, _, hk => exact hk
  | 47, _, hk => exact hk
  | 48, _, hk => exact hk
  | 49, _, hk => exact hk
  | 50, _, hk => exact (by obtain ⟨t, e, h⟩ := hk; exact ⟨t, e, h.below hb⟩)
  | 51, _, hk => exact hk
  | 52, _, hk => exact hk
  | 53, _, hk => exact hk
  | 54, _, hk => exact hk
  | 55, _, hk => exact hk
  | 56, _, hk => exact hk
  | 57, _, hk => exact hk
  | 58, _, hk => exact hk
  | 59, _, hk => exact hk
  | 60, _, hk => exact hk
  | 61, _, hk => exact hk
  | 62, _, hk => exact hk
  | 63, _, hk => exact hk
  | k + 64, hj, _ => omega
 ·intro i o ho a' W hS hoth hd
  have oS1 : a'.eval (.tmp 1) = .pointer (some ⟨gv, 0, none⟩) := hoth 1 (by decide)
  have oS2 : a'.eval (.tmp 2) = .pointer (some ⟨gu, 0, none⟩) := hoth 2 (by decide)
  have oS3 : a'.eval (.tmp 3) = .pointer (some ⟨gz, 0, none⟩) := hoth 3 (by decide)
  have oS4 : a'.eval (.tmp 4) = .pointer (some ⟨gj, 0, none⟩) := hoth 4 (by decide)
  have oS5 : a'.eval (.tmp 5) = .pointer (some ⟨gt, 0, none⟩) := hoth 5 (by decide)
  have oS7 : a'.eval (.tmp 7) = .pointer (some ⟨gs, 0, none⟩) := hoth 7 (by decide)
  have oS8 : a'.eval (.tmp 8) = .pointer (some ⟨g8, 0, none⟩) := hoth 8 (by decide)
  obtain ⟨ρ, hρ⟩ : ∃ ρ, ρ = a'.eval := ⟨_, rfl⟩
  have hc : ∀ v, ρ (.const v) = v := fun v => by rw [hρ]; rfl
  have hfn : ∀ f, ρ (.func f) = .func (.func f) #[] #[] := fun f => by rw [hρ]; rfl
  have qS1 : ρ (.tmp 1) = .pointer (some ⟨gv, 0, none⟩) := by rw [hρ]; exact oS1
  have qS2 : ρ (.tmp 2) = .pointer (some ⟨gu, 0, none⟩) := by rw [hρ]; exact oS2
  have qS3 : ρ (.tmp 3) = .pointer (some ⟨gz, 0, none⟩) := by rw [hρ]; exact oS3
  have qS4 : ρ (.tmp 4) = .pointer (some ⟨gj, 0, none⟩) := by rw [hρ]; exact oS4
  have qS5 : ρ (.tmp 5) = .pointer (some ⟨gt, 0, none⟩) := by rw [hρ]; exact oS5
  have qS7 : ρ (.tmp 7) = .pointer (some ⟨gs, 0, none⟩) := by rw [hρ]; exact oS7
  have qS8 : ρ (.tmp 8) = .pointer (some ⟨g8, 0, none⟩) := by rw [hρ]; exact oS8
  clear hoth
  match i, ho with
  | 0, ho =>
   obtain rfl := Option.some.inj ho
   clear hd
   refine Or.inl ⟨rfl, fun KK hK => ?_⟩
   have kk := keepB hS kgv.out
   have c0 := one_cells kk 0 _ rfl
   have c1 := one_cells kk 1 _ rfl
   have c2 := one_cells kk 2 _ rfl
   have c3 := one_cells kk 3 _ rfl
   have c4 := one_cells kk 4 _ rfl
   exact wq (u := .agg #[.int .i64 ver, .int .i64 vpl, .slice vra vrn vrc, .slice vaa van vac, .slice vca vcn vcc]) (by rw [← hρ]; clear hρ; simp only [execOp]; go_simp) (hK _ W (rfl) hS (Below.refl _ _))
  | 1, ho =>
   obtain rfl := Option.some.inj ho
   have e0 : (ρ (.tmp 33)) = .agg #[.int .i64 ver, .int .i64 vpl, .slice vra vrn vrc, .slice vaa van vac, .slice vca vcn vcc] := by rw [hρ]; exact hd 0 (by decide)
   clear hd
   refine Or.inl ⟨rfl, fun KK hK => ?_⟩
   refine Gives.wp (R := fun v W' => (∃ t : VdV, v = vdW t ∧ t.Is W' (jdA (sP 12))) ∧ Below W.heap.size W W') (Gives.enter (f := 12) (args := #[.agg #[.int .i64 ver, .int .i64 vpl, .slice vra vrn vrc, .slice vaa van vac, .slice vca vcn vcc]]) (by rw [← hρ]; clear hρ; simp only [execOp]; go_simp) ((plainVd_any ⟨ver, vpl, ⟨vra, vrn, vrc⟩, ⟨vaa, van, vac⟩, ⟨vca, vcn, vcc⟩⟩ (jdA (sP 12)) W (iv.out.below hS) (by rw [jd12]; decide)).mono ?_)) ?_
   ·rintro e w8 ⟨t, rfl, h1, h2⟩; exact ⟨_, rfl, ⟨t, rfl, h1⟩, h2⟩
   ·rintro v' W' ⟨h1, h2⟩; exact hK v' W' h1 (keep_below hS h2) h2
  | 2, ho =>
   obtain rfl := Option.some.inj ho
   clear hd
   refine Or.inl ⟨rfl, fun KK hK => ?_⟩
   have kk := keepB hS kw.out
   have c0 := one_cells kk 0 _ rfl
   have c1 := one_cells kk 1 _ rfl
   have c2 := one_cells kk 2 _ rfl
   have c3 := one_cells kk 3 _ rfl
   have c4 := one_cells kk 4 _ rfl
   exact wq (u := .agg #[.int .i64 0, .int .i64 (-1), .slice pa 2 pc, .slice (some ⟨gA, 0, none⟩) 2 2, .slice (some ⟨gB, 0, none⟩) 1 1]) (by rw [← hρ]; clear hρ; simp only [execOp]; go_simp) (hK _ W (rfl) hS (Below.refl _ _))
  | 3, ho =>
   obtain rfl := Option.some.inj ho
   have e1 : ∃ t : VdV, (ρ (.tmp 34)) = vdW t ∧ t.Is W (jdA (sP 12)) := by rw [hρ]; exact hd 1 (by decide)
   have e2 : (ρ (.tmp 35)) = .agg #[.int .i64 0, .int .i64 (-1), .slice pa 2 pc, .slice (some ⟨gA, 0, none⟩) 2 2, .slice (some ⟨gB, 0, none⟩) 1 1] := by rw [hρ]; exact hd 2 (by decide)
   clear hd
   refine Or.inl ⟨rfl, fun KK hK => ?_⟩
   obtain ⟨t, h0, h1⟩ := e1
   refine Gives.wp (R := fun v W' => v = .bool true ∧ Below W.heap.size W W') (Gives.enter (f := 11) (args := #[vdW t, .agg #[.int .i64 0, .int .i64 (-1), .slice pa 2 pc, .slice (some ⟨gA, 0, none⟩) 2 2, .slice (some ⟨gB, 0, none⟩) 1 1]]) (by rw [← hρ]; clear hρ; simp only [execOp]; go_simp) ((sameVd_any t ⟨0, -1, ⟨pa, 2, pc⟩, ⟨some ⟨gA, 0, none⟩, 2, 2⟩, ⟨some ⟨gB, 0, none⟩, 1, 1⟩⟩ (jdA (sP 12)) W h1 (iw.out.below hS) (by rw [jd12]; decide)).mono ?_)) ?_
   ·rintro e w8 ⟨rfl, h2⟩; exact ⟨_, rfl, rfl, h2⟩
   ·rintro v' W' ⟨h1, h2⟩; exact hK v' W' h1 (keep_below hS h2) h2
  | 4, ho =>
   obtain rfl := Option.some.inj ho
   have e3 : (ρ (.tmp 36)) = .bool true := by rw [hρ]; exact hd 3 (by decide)
   clear hd
   refine Or.inl ⟨rfl, fun KK hK => ?_⟩
   exact wq (u := .bool true) (by rw [← hρ]; clear hρ; simp only [execOp]; go_simp) (hK _ W (rfl) hS (Below.refl _ _))
  | 5, ho =>
   obtain rfl := Option.some.inj ho
   have e4 : (ρ (.tmp 37)) = .bool true := by rw [hρ]; exact hd 4 (by decide)
   clear hd
   have g4 : a'.eval (.tmp 37) = .bool true := by rw [← hρ]; exact e4
   refine Or.inr ⟨4, true, true, rfl, by decide, by decide, g4, fun _ KK hK => ?_, fun h => absurd rfl h⟩
   exact wq (u := .pointer (some ⟨gu, 0, none⟩)) (by rw [← hρ]; clear hρ; simp only [execOp]; go_simp) (hK _ W (rfl) hS (Below.refl _ _))
  | 6, ho =>
   obtain rfl := Option.some.inj ho
   have e4 : (ρ (.tmp 37)) = .bool true := by rw [hρ]; exact hd 4 (by decide)
   have e5 : (ρ (.tmp 38)) = .pointer (some ⟨gu, 0, none⟩) := by rw [hρ]; exact hd 5 (by decide)
   clear hd
   have g4 : a'.eval (.tmp 37) = .bool true := by rw [← hρ]; exact e4
   refine Or.inr ⟨4, true, true, rfl, by decide, by decide, g4, fun _ KK hK => ?_, fun h => absurd rfl h⟩
   have kk := keepB hS kgu.out
   have c0 := one_cells kk 0 _ rfl
   exact wq (u := .int .i64 13) (by rw [← hρ]; clear hρ; simp only [execOp]; go_simp) (hK _ W (rfl) hS (Below.refl _ _))
  | 7, ho =>
   obtain rfl := Option.some.inj ho
   have e4 : (ρ (.tmp 37)) = .bool true := by rw [hρ]; exact hd 4 (by decide)
   have e6 : (ρ (.tmp 39)) = .int .i64 13 := by rw [hρ]; exact hd 6 (by decide)
   clear hd
   have g4 : a'.eval (.tmp 37) = .bool true := by rw [← hρ]; exact e4
   refine Or.inr ⟨4, true, true, rfl, by decide, by decide, g4, fun _ KK hK => ?_, fun h => absurd rfl h⟩
   exact wq (u := .bool true) (by rw [← hρ]; clear hρ; simp only [execOp]; go_simp) (hK _ W (rfl) hS (Below.refl _ _))
  | 8, ho =>
   obtain rfl := Option.some.inj ho
   have e4 : (ρ (.tmp 37)) = .bool true := by rw [hρ]; exact hd 4 (by decide)
   have e7 : (ρ (.tmp 40)) = .bool true := by rw [hρ]; exact hd 7 (by decide)
   clear hd
   refine Or.inl ⟨rfl, fun KK hK => ?_⟩
   exact wq (u := .bool true) (by rw [← hρ]; clear hρ; simp only [execOp]; go_simp) (hK _ W (rfl) hS (Below.refl _ _))
  | 9, ho =>
   obtain rfl := Option.some.inj ho
   have e8 : (ρ (.tmp 41)) = .bool true := by rw [hρ]; exact hd 8 (by decide)
   clear hd
   refine Or.inl ⟨rfl, fun KK hK => ?_⟩
   exact wq (u := .bool true) (by rw [← hρ]; clear hρ; simp only [execOp]; go_simp) (hK _ W (rfl) hS (Below.refl _ _))
  | 10, ho =>
   obtain rfl := Option.some.inj ho
   have e9 : (ρ (.tmp 42)) = .bool true := by rw [hρ]; exact hd 9 (by decide)
   clear hd
   have g9 : a'.eval (.tmp 42) = .bool true := by rw [← hρ]; exact e9
   refine Or.inr ⟨9, true, true, rfl, by decide, by decide, g9, fun _ KK hK => ?_, fun h => absurd rfl h⟩
   exact wq (u := .pointer (some ⟨gu, 1, none⟩)) (by rw [← hρ]; clear hρ; simp only [execOp]; go_simp) (hK _ W (rfl) hS (Below.refl _ _))
  | 11, ho =>
   obtain rfl := Option.some.inj ho
   have e9 : (ρ (.tmp 42)) = .bool true := by rw [hρ]; exact hd 9 (by decide)
   have e10 : (ρ (.tmp 43)) = .pointer (some ⟨gu, 1, none⟩) := by rw [hρ]; exact hd 10 (by decide)
   clear hd
   have g9 : a'.eval (.tmp 42) = .bool true := by rw [← hρ]; exact e9
   refine Or.inr ⟨9, true, true, rfl, by decide, by decide, g9, fun _ KK hK => ?_, fun h => absurd rfl h⟩
   have kk := keepB hS kgu.out
   have c1 := one_cells kk 1 _ rfl
   exact wq (u := .int .i64 1) (by rw [← hρ]; clear hρ; simp only [execOp]; go_simp) (hK _ W (rfl) hS (Below.refl _ _))
  | 12, ho =>
   obtain rfl := Option.some.inj ho
   have e9 : (ρ (.tmp 42)) = .bool true := by rw [hρ]; exact hd 9 (by decide)
   have e11 : (ρ (.tmp 44)) = .int .i64 1 := by rw [hρ]; exact hd 11 (by decide)
   clear hd
   have g9 : a'.eval (.tmp 42) = .bool true := by rw [← hρ]; exact e9
   refine Or.inr ⟨9, true, true, rfl, by decide, by decide, g9, fun _ KK hK => ?_, fun h => absurd rfl h⟩
   exact wq (u := .bool true) (by rw [← hρ]; clear hρ; simp only [execOp]; go_simp) (hK _ W (rfl) hS (Below.refl _ _))
  | 13, ho =>
   obtain rfl := Option.some.inj ho
   have e9 : (ρ (.tmp 42)) = .bool true := by rw [hρ]; exact hd 9 (by decide)
   have e12 : (ρ (.tmp 45)) = .bool true := by rw [hρ]; exact hd 12 (by decide)
   clear hd
   refine Or.inl ⟨rfl, fun KK hK => ?_⟩
   exact wq (u := .bool true) (by rw [← hρ]; clear hρ; simp only [execOp]; go_simp) (hK _ W (rfl) hS (Below.refl _ _))
  | 14, ho =>
   obtain rfl := Option.some.inj ho
   have e13 : (ρ (.tmp 46)) = .bool true := by rw [hρ]; exact hd 13 (by decide)
   clear hd
   refine Or.inl ⟨rfl, fun KK hK => ?_⟩
   exact wq (u := .bool true) (by rw [← hρ]; clear hρ; simp only [execOp]; go_simp) (hK _ W (rfl) hS (Below.refl _ _))
  | 15, ho =>
   obtain rfl := Option.some.inj ho
   have e14 : (ρ (.tmp 47)) = .bool true := by rw [hρ]; exact hd 14 (by decide)
   clear hd
   have g14 : a'.eval (.tmp 47) = .bool true := by rw [← hρ]; exact e14
   refine Or.inr ⟨14, true, true, rfl, by decide, by decide, g14, fun _ KK hK => ?_, fun h => absurd rfl h⟩
   exact wq (u := .pointer (some ⟨gu, 2, none⟩)) (by rw [← hρ]; clear hρ; simp only [execOp]; go_simp) (hK _ W (rfl) hS (Below.refl _ _))
  | 16, ho =>
   obtain rfl := Option.some.inj ho
   have e14 : (ρ (.tmp 47)) = .bool true := by rw [hρ]; exact hd 14 (by decide)
   have e15 : (ρ (.tmp 48)) = .pointer (some ⟨gu, 2, none⟩) := by rw [hρ]; exact hd 15 (by decide)
   clear hd
   have g14 : a'.eval (.tmp 47) = .bool true := by rw [← hρ]; exact e14
   refine Or.inr ⟨14, true, true, rfl, by decide, by decide, g14, fun _ KK hK => ?_, fun h => absurd rfl h⟩
   have kk := keepB hS kgu.out
   have c2 := one_cells kk 2 _ rfl
   exact wq (u := .slice ura 2 urc) (by rw [← hρ]; clear hρ; simp only [execOp]; go_simp) (hK _ W (rfl) hS (Below.refl _ _))
  | 17, ho =>
   obtain rfl := Option.some.inj ho
   have e14 : (ρ (.tmp 47)) = .bool true := by rw [hρ]; exact hd 14 (by decide)
   have e16 : (ρ (.tmp 49)) = .slice ura 2 urc := by rw [hρ]; exact hd 16 (by decide)
   clear hd
   have g14 : a'.eval (.tmp 47) = .bool true := by rw [← hρ]; exact e14
   refine Or.inr ⟨14, true, true, rfl, by decide, by decide, g14, fun _ KK hK => ?_, fun h => absurd rfl h⟩
   exact wq (u := .int .i64 (2 : Int)) (by rw [← hρ]; clear hρ; simp only [execOp]; go_simp) (hK _ W (rfl) hS (Below.refl _ _))
  | 18, ho =>
   obtain rfl := Option.some.inj ho
   have e14 : (ρ (.tmp 47)) = .bool true := by rw [hρ]; exact hd 14 (by decide)
   have e17 : (ρ (.tmp 50)) = .int .i64 (2 : Int) := by rw [hρ]; exact hd 17 (by decide)
   clear hd
   have g14 : a'.eval (.tmp 47) = .bool true := by rw [← hρ]; exact e14
   refine Or.inr ⟨14, true, true, rfl, by decide, by decide, g14, fun _ KK hK => ?_, fun h => absurd rfl h⟩
   exact wq (u := .bool true) (by rw [← hρ]; clear hρ; simp only [execOp]; go_simp) (hK _ W (rfl) hS (Below.refl _ _))
  | 19, ho =>
   obtain rfl := Option.some.inj ho
   have e14 : (ρ (.tmp 47)) = .bool true := by rw [hρ]; exact hd 14 (by decide)
   have e18 : (ρ (.tmp 51)) = .bool true := by rw [hρ]; exact hd 18 (by decide)
   clear hd
   refine Or.inl ⟨rfl, fun KK hK => ?_⟩
   exact wq (u := .bool true) (by rw [← hρ]; clear hρ; simp only [execOp]; go_simp) (hK _ W (rfl) hS (Below.refl _ _))
  | 20, ho =>
   obtain rfl := Option.some.inj ho
   have e19 : (ρ (.tmp 52)) = .bool true := by rw [hρ]; exact hd 19 (by decide)
   clear hd
   refine Or.inl ⟨rfl, fun KK hK => ?_⟩
   exact wq (u := .bool true) (by rw [← hρ]; clear hρ; simp only [execOp]; go_simp) (hK _ W (rfl) hS (Below.refl _ _))
  | 21, ho =>
   obtain rfl := Option.some.inj ho
   have e20 : (ρ (.tmp 53)) = .bool true := by rw [hρ]; exact hd 20 (by decide)
   clear hd
   have g20 : a'.eval (.tmp 53) = .bool true := by rw [← hρ]; exact e20
   refine Or.inr ⟨20, true, true, rfl, by decide, by decide, g20, fun _ KK hK => ?_, fun h => absurd rfl h⟩
   exact wq (u := .pointer (some ⟨gu, 3, none⟩)) (by rw [← hρ]; clear hρ; simp only [execOp]; go_simp) (hK _ W (rfl) hS (Below.refl _ _))
  | 22, ho =>
   obtain rfl := Option.some.inj ho
   have e20 : (ρ (.tmp 53)) = .bool true := by rw [hρ]; exact hd 20 (by decide)
   have e21 : (ρ (.tmp 54)) = .pointer (some ⟨gu, 3, none⟩) := by rw [hρ]; exact hd 21 (by decide)
   clear hd
   have g20 : a'.eval (.tmp 53) = .bool true := by rw [← hρ]; exact e20
   refine Or.inr ⟨20, true, true, rfl, by decide, by decide, g20, fun _ KK hK => ?_, fun h => absurd rfl h⟩
   have kk := keepB hS kgu.out
   have c3 := one_cells kk 3 _ rfl
   exact wq (u := .slice uaa 0 uac) (by rw [← hρ]; clear hρ; simp only [execOp]; go_simp) (hK _ W (rfl) hS (Below.refl _ _))
  | 23, ho =>
   obtain rfl := Option.some.inj ho
   have e20 : (ρ (.tmp 53)) = .bool true := by rw [hρ]; exact hd 20 (by decide)
   have e22 : (ρ (.tmp 55)) = .slice uaa 0 uac := by rw [hρ]; exact hd 22 (by decide)
   clear hd
   have g20 : a'.eval (.tmp 53) = .bool true := by rw [← hρ]; exact e20
   refine Or.inr ⟨20, true, true, rfl, by decide, by decide, g20, fun _ KK hK => ?_, fun h => absurd rfl h⟩
   exact wq (u := .int .i64 (0 : Int)) (by rw [← hρ]; clear hρ; simp only [execOp]; go_simp) (hK _ W (rfl) hS (Below.refl _ _))
  | 24, ho =>
   obtain rfl := Option.some.inj ho
   have e20 : (ρ (.tmp 53)) = .bool true := by rw [hρ]; exact hd 20 (by decide)
   have e23 : (ρ (.tmp 56)) = .int .i64 (0 : Int) := by rw [hρ]; exact hd 23 (by decide)
   clear hd
   have g20 : a'.eval (.tmp 53) = .bool true := by rw [← hρ]; exact e20
   refine Or.inr ⟨20, true, true, rfl, by decide, by decide, g20, fun _ KK hK => ?_, fun h => absurd rfl h⟩
   exact wq (u := .bool true) (by rw [← hρ]; clear hρ; simp only [execOp]; go_simp) (hK _ W (rfl) hS (Below.refl _ _))
  | 25, ho =>
   obtain rfl := Option.some.inj ho
   have e20 : (ρ (.tmp 53)) = .bool true := by rw [hρ]; exact hd 20 (by decide)
   have e24 : (ρ (.tmp 57)) = .bool true := by rw [hρ]; exact hd 24 (by decide)
   clear hd
   refine Or.inl ⟨rfl, fun KK hK => ?_⟩
   exact wq (u := .bool true) (by rw [← hρ]; clear hρ; simp only [execOp]; go_simp) (hK _ W (rfl) hS (Below.refl _ _))
  | 26, ho =>
   obtain rfl := Option.some.inj ho
   have e25 : (ρ (.tmp 58)) = .bool true := by rw [hρ]; exact hd 25 (by decide)
   clear hd
   refine Or.inl ⟨rfl, fun KK hK => ?_⟩
   exact wq (u := .bool true) (by rw [← hρ]; clear hρ; simp only [execOp]; go_simp) (hK _ W (rfl) hS (Below.refl _ _))
  | 27, ho =>
   obtain rfl := Option.some.inj ho
   have e26 : (ρ (.tmp 59)) = .bool true := by rw [hρ]; exact hd 26 (by decide)
   clear hd
   have g26 : a'.eval (.tmp 59) = .bool true := by rw [← hρ]; exact e26
   refine Or.inr ⟨26, true, true, rfl, by decide, by decide, g26, fun _ KK hK => ?_, fun h => absurd rfl h⟩
   exact wq (u := .pointer (some ⟨gu, 4, none⟩)) (by rw [← hρ]; clear hρ; simp only [execOp]; go_simp) (hK _ W (rfl) hS (Below.refl _ _))
  | 28, ho =>
   obtain rfl := Option.some.inj ho
   have e26 : (ρ (.tmp 59)) = .bool true := by rw [hρ]; exact hd 26 (by decide)
   have e27 : (ρ (.tmp 60)) = .pointer (some ⟨gu, 4, none⟩) := by rw [hρ]; exact hd 27 (by decide)
   clear hd
   have g26 : a'.eval (.tmp 59) = .bool true := by rw [← hρ]; exact e26
   refine Or.inr ⟨26, true, true, rfl, by decide, by decide, g26, fun _ KK hK => ?_, fun h => absurd rfl h⟩
   have kk := keepB hS kgu.out
   have c4 := one_cells kk 4 _ rfl
   exact wq (u := .slice uca 1 ucc) (by rw [← hρ]; clear hρ; simp only [execOp]; go_simp) (hK _ W (rfl) hS (Below.refl _ _))
  | 29, ho =>
   obtain rfl := Option.some.inj ho
   have e26 : (ρ (.tmp 59)) = .bool true := by rw [hρ]; exact hd 26 (by decide)
   have e28 : (ρ (.tmp 61)) = .slice uca 1 ucc := by rw [hρ]; exact hd 28 (by decide)
   clear hd
   have g26 : a'.eval (.tmp 59) = .bool true := by rw [← hρ]; exact e26
   refine Or.inr ⟨26, true, true, rfl, by decide, by decide, g26, fun _ KK hK => ?_, fun h => absurd rfl h⟩
   exact wq (u := .int .i64 (1 : Int)) (by rw [← hρ]; clear hρ; simp only [execOp]; go_simp) (hK _ W (rfl) hS (Below.refl _ _))
  | 30, ho =>
   obtain rfl := Option.some.inj ho
   have e26 : (ρ (.tmp 59)) = .bool true := by rw [hρ]; exact hd 26 (by decide)
   have e29 : (ρ (.tmp 62)) = .int .i64 (1 : Int) := by rw [hρ]; exact hd 29 (by decide)
   clear hd
   have g26 : a'.eval (.tmp 59) = .bool true := by rw [← hρ]; exact e26
   refine Or.inr ⟨26, true, true, rfl, by decide, by decide, g26, fun _ KK hK => ?_, fun h => absurd rfl h⟩
   exact wq (u := .bool true) (by rw [← hρ]; clear hρ; simp only [execOp]; go_simp) (hK _ W (rfl) hS (Below.refl _ _))
  | 31, ho =>
   obtain rfl := Option.some.inj ho
   have e26 : (ρ (.tmp 59)) = .bool true := by rw [hρ]; exact hd 26 (by decide)
   have e30 : (ρ (.tmp 63)) = .bool true := by rw [hρ]; exact hd 30 (by decide)
   clear hd
   refine Or.inl ⟨rfl, fun KK hK => ?_⟩
   exact wq (u := .bool true) (by rw [← hρ]; clear hρ; simp only [execOp]; go_simp) (hK _ W (rfl) hS (Below.refl _ _))
  | 32, ho =>
   obtain rfl := Option.some.inj ho
   have e31 : (ρ (.tmp 64)) = .bool true := by rw [hρ]; exact hd 31 (by decide)
   clear hd
   refine Or.inl ⟨rfl, fun KK hK => ?_⟩
   exact wq (u := .bool true) (by rw [← hρ]; clear hρ; simp only [execOp]; go_simp) (hK _ W (rfl) hS (Below.refl _ _))
  | 33, ho =>
   obtain rfl := Option.some.inj ho
   have e32 : (ρ (.tmp 65)) = .bool true := by rw [hρ]; exact hd 32 (by decide)
   clear hd
   have g32 : a'.eval (.tmp 65) = .bool true := by rw [← hρ]; exact e32
   refine Or.inr ⟨32, true, true, rfl, by decide, by decide, g32, fun _ KK hK => ?_, fun h => absurd rfl h⟩
   exact wq (u := .pointer (some ⟨gz, 0, none⟩)) (by rw [← hρ]; clear hρ; simp only [execOp]; go_simp) (hK _ W (rfl) hS (Below.refl _ _))
  | 34, ho =>
   obtain rfl := Option.some.inj ho
   have e32 : (ρ (.tmp 65)) = .bool true := by rw [hρ]; exact hd 32 (by decide)
   have e33 : (ρ (.tmp 66)) = .pointer (some ⟨gz, 0, none⟩) := by rw [hρ]; exact hd 33 (by decide)
   clear hd
   have g32 : a'.eval (.tmp 65) = .bool true := by rw [← hρ]; exact e32
   refine Or.inr ⟨32, true, true, rfl, by decide, by decide, g32, fun _ KK hK => ?_, fun h => absurd rfl h⟩
   have kk := keepB hS kgz.out
   have c0 := one_cells kk 0 _ rfl
   exact wq (u := .int .i64 12) (by rw [← hρ]; clear hρ; simp only [execOp]; go_simp) (hK _ W (rfl) hS (Below.refl _ _))
  | 35, ho =>
   obtain rfl := Option.some.inj ho
   have e32 : (ρ (.tmp 65)) = .bool true := by rw [hρ]; exact hd 32 (by decide)
   have e34 : (ρ (.tmp 67)) = .int .i64 12 := by rw [hρ]; exact hd 34 (by decide)
   clear hd
   have g32 : a'.eval (.tmp 65) = .bool true := by rw [← hρ]; exact e32
   refine Or.inr ⟨32, true, true, rfl, by decide, by decide, g32, fun _ KK hK => ?_, fun h => absurd rfl h⟩
   exact wq (u := .bool true) (by rw [← hρ]; clear hρ; simp only [execOp]; go_simp) (hK _ W (rfl) hS (Below.refl _ _))
  | 36, ho =>
   obtain rfl := Option.some.inj ho
   have e32 : (ρ (.tmp 65)) = .bool true := by rw [hρ]; exact hd 32 (by decide)
   have e35 : (ρ (.tmp 68)) = .bool true := by rw [hρ]; exact hd 35 (by decide)
   clear hd
   refine Or.inl ⟨rfl, fun KK hK => ?_⟩
   exact wq (u := .bool true) (by rw [← hρ]; clear hρ; simp only [execOp]; go_simp) (hK _ W (rfl) hS (Below.refl _ _))
  | 37, ho =>
   obtain rfl := Option.some.inj ho
   have e36 : (ρ (.tmp 69)) = .bool true := by rw [hρ]; exact hd 36 (by decide)
   clear hd
   refine Or.inl ⟨rfl, fun KK hK => ?_⟩
   exact wq (u := .bool true) (by rw [← hρ]; clear hρ; simp only [execOp]; go_simp) (hK _ W (rfl) hS (Below.refl _ _))
  | 38, ho =>
   obtain rfl := Option.some.inj ho
   have e37 : (ρ (.tmp 70)) = .bool true := by rw [hρ]; exact hd 37 (by decide)
   clear hd
   have g37 : a'.eval (.tmp 70) = .bool true := by rw [← hρ]; exact e37
   refine Or.inr ⟨37, true, true, rfl, by decide, by decide, g37, fun _ KK hK => ?_, fun h => absurd rfl h⟩
   exact wq (u := .pointer (some ⟨gz, 1, none⟩)) (by rw [← hρ]; clear hρ; simp only [execOp]; go_simp) (hK _ W (rfl) hS (Below.refl _ _))
  | 39, ho =>
   obtain rfl := Option.some.inj ho
   have e37 : (ρ (.tmp 70)) = .bool true := by rw [hρ]; exact hd 37 (by decide)
   have e38 : (ρ (.tmp 71)) = .pointer (some ⟨gz, 1, none⟩) := by rw [hρ]; exact hd 38 (by decide)
   clear hd
   have g37 : a'.eval (.tmp 70) = .bool true := by rw [← hρ]; exact e37
   refine Or.inr ⟨37, true, true, rfl, by decide, by decide, g37, fun _ KK hK => ?_, fun h => absurd rfl h⟩
   have kk := keepB hS kgz.out
   have c1 := one_cells kk 1 _ rfl
   exact wq (u := .int .i64 (-1)) (by rw [← hρ]; clear hρ; simp only [execOp]; go_simp) (hK _ W (rfl) hS (Below.refl _ _))
  | 40, ho =>
   obtain rfl := Option.some.inj ho
   have e37 : (ρ (.tmp 70)) = .bool true := by rw [hρ]; exact hd 37 (by decide)
   have e39 : (ρ (.tmp 72)) = .int .i64 (-1) := by rw [hρ]; exact hd 39 (by decide)
   clear hd
   have g37 : a'.eval (.tmp 70) = .bool true := by rw [← hρ]; exact e37
   refine Or.inr ⟨37, true, true, rfl, by decide, by decide, g37, fun _ KK hK => ?_, fun h => absurd rfl h⟩
   exact wq (u := .bool true) (by rw [← hρ]; clear hρ; simp only [execOp]; go_simp) (hK _ W (rfl) hS (Below.refl _ _))
  | 41, ho =>
   obtain rfl := Option.some.inj ho
   have e37 : (ρ (.tmp 70)) = .bool true := by rw [hρ]; exact hd 37 (by decide)
   have e40 : (ρ (.tmp 73)) = .bool true := by rw [hρ]; exact hd 40 (by decide)
   clear hd
   refine Or.inl ⟨rfl, fun KK hK => ?_⟩
   exact wq (u := .bool true) (by rw [← hρ]; clear hρ; simp only [execOp]; go_simp) (hK _ W (rfl) hS (Below.refl _ _))
  | 42, ho =>
   obtain rfl := Option.some.inj ho
   have e41 : (ρ (.tmp 74)) = .bool true := by rw [hρ]; exact hd 41 (by decide)
   clear hd
   refine Or.inl ⟨rfl, fun KK hK => ?_⟩
   exact wq (u := .bool true) (by rw [← hρ]; clear hρ; simp only [execOp]; go_simp) (hK _ W (rfl) hS (Below.refl _ _))
  | 43, ho =>
   obtain rfl := Option.some.inj ho
   have e42 : (ρ (.tmp 75)) = .bool true := by rw [hρ]; exact hd 42 (by decide)
   clear hd
   have g42 : a'.eval (.tmp 75) = .bool true := by rw [← hρ]; exact e42
   refine Or.inr ⟨42, true, true, rfl, by decide, by decide, g42, fun _ KK hK => ?_, fun h => absurd rfl h⟩
   have kk := keepB hS kgt.out
   have c0 := one_cells kk 0 _ rfl
   have c1 := one_cells kk 1 _ rfl
   have c2 := one_cells kk 2 _ rfl
   have c3 := one_cells kk 3 _ rfl
   have c4 := one_cells kk 4 _ rfl
   exact wq (u := .agg #[.int .i64 ter, .int .i64 tpl, .slice tra trn trc, .slice taa tan tac, .slice tca tcn tcc]) (by rw [← hρ]; clear hρ; simp only [execOp]; go_simp) (hK _ W (rfl) hS (Below.refl _ _))
  | 44, ho =>
   obtain rfl := Option.some.inj ho
   have e42 : (ρ (.tmp 75)) = .bool true := by rw [hρ]; exact hd 42 (by decide)
   have e43 : (ρ (.tmp 76)) = .agg #[.int .i64 ter, .int .i64 tpl, .slice tra trn trc, .slice taa tan tac, .slice tca tcn tcc] := by rw [hρ]; exact hd 43 (by decide)
   clear hd
   have g42 : a'.eval (.tmp 75) = .bool true := by rw [← hρ]; exact e42
   refine Or.inr ⟨42, true, true, rfl, by decide, by decide, g42, fun _ KK hK => ?_, fun h => absurd rfl h⟩
   refine Gives.wp (R := fun v W' => (∃ t : VdV, v = vdW t ∧ t.Is W' (jdA (sP 12))) ∧ Below W.heap.size W W') (Gives.enter (f := 12) (args := #[.agg #[.int .i64 ter, .int .i64 tpl, .slice tra trn trc, .slice taa tan tac, .slice tca tcn tcc]]) (by rw [← hρ]; clear hρ; simp only [execOp]; go_simp) ((plainVd_any ⟨ter, tpl, ⟨tra, trn, trc⟩, ⟨taa, tan, tac⟩, ⟨tca, tcn, tcc⟩⟩ (jdA (sP 12)) W (it.out.below hS) (by rw [jd12]; decide)).mono ?_)) ?_
   ·rintro e w8 ⟨t, rfl, h1, h2⟩; exact ⟨_, rfl, ⟨t, rfl, h1⟩, h2⟩
   ·rintro v' W' ⟨h1, h2⟩; exact hK v' W' h1 (keep_below hS h2) h2
  | 45, ho =>
   obtain rfl := Option.some.inj ho
   have e42 : (ρ (.tmp 75)) = .bool true := by rw [hρ]; exact hd 42 (by decide)
   clear hd
   have g42 : a'.eval (.tmp 75) = .bool true := by rw [← hρ]; exact e42
   refine Or.inr ⟨42, true, true, rfl, by decide, by decide, g42, fun _ KK hK => ?_, fun h => absurd rfl h⟩
   have kk := keepB hS kw.out
   have c0 := one_cells kk 0 _ rfl
   have c1 := one_cells kk 1 _ rfl
   have c2 := one_cells kk 2 _ rfl
   have c3 := one_cells kk 3 _ rfl
   have c4 := one_cells kk 4 _ rfl
   exact wq (u := .agg #[.int .i64 0, .int .i64 (-1), .slice pa 2 pc, .slice (some ⟨gA, 0, none⟩) 2 2, .slice (some ⟨gB, 0, none⟩) 1 1]) (by rw [← hρ]; clear hρ; simp only [execOp]; go_simp) (hK _ W (rfl) hS (Below.refl _ _))
  | 46, ho =>
   obtain rfl := Option.some.inj ho
   have e42 : (ρ (.tmp 75)) = .bool true := by rw [hρ]; exact hd 42 (by decide)
   have e44 : ∃ t : VdV, (ρ (.tmp 77)) = vdW t ∧ t.Is W (jdA (sP 12)) := by rw [hρ]; exact hd 44 (by decide)
   have e45 : (ρ (.tmp 78)) = .agg #[.int .i64 0, .int .i64 (-1), .slice pa 2 pc, .slice (some ⟨gA, 0, none⟩) 2 2, .slice (some ⟨gB, 0, none⟩) 1 1] := by rw [hρ]; exact hd 45 (by decide)
   clear hd
   have g42 : a'.eval (.tmp 75) = .bool true := by rw [← hρ]; exact e42
   refine Or.inr ⟨42, true, true, rfl, by decide, by decide, g42, fun _ KK hK => ?_, fun h => absurd rfl h⟩
   obtain ⟨t, h0, h1⟩ := e44
   refine Gives.wp (R := fun v W' => v = .bool true ∧ Below W.heap.size W W') (Gives.enter (f := 11) (args := #[vdW t, .agg #[.int .i64 0, .int .i64 (-1), .slice pa 2 pc, .slice (some ⟨gA, 0, none⟩) 2 2, .slice (some ⟨gB, 0, none⟩) 1 1]]) (by rw [← hρ]; clear hρ; simp only [execOp]; go_simp) ((sameVd_any t ⟨0, -1, ⟨pa, 2, pc⟩, ⟨some ⟨gA, 0, none⟩, 2, 2⟩, ⟨some ⟨gB, 0, none⟩, 1, 1⟩⟩ (jdA (sP 12)) W h1 (iw.out.below hS) (by rw [jd12]; decide)).mono ?_)) ?_
   ·rintro e w8 ⟨rfl, h2⟩; exact ⟨_, rfl, rfl, h2⟩
   ·rintro v' W' ⟨h1, h2⟩; exact hK v' W' h1 (keep_below hS h2) h2
  | 47, ho =>
   obtain rfl := Option.some.inj ho
   have e42 : (ρ (.tmp 75)) = .bool true := by rw [hρ]; exact hd 42 (by decide)
   have e46 : (ρ (.tmp 79)) = .bool true := by rw [hρ]; exact hd 46 (by decide)
   clear hd
   refine Or.inl ⟨rfl, fun KK hK => ?_⟩
   exact wq (u := .bool true) (by rw [← hρ]; clear hρ; simp only [execOp]; go_simp) (hK _ W (rfl) hS (Below.refl _ _))
  | 48, ho =>
   obtain rfl := Option.some.inj ho
   have e47 : (ρ (.tmp 80)) = .bool true := by rw [hρ]; exact hd 47 (by decide)
   clear hd
   refine Or.inl ⟨rfl, fun KK hK => ?_⟩
   exact wq (u := .bool true) (by rw [← hρ]; clear hρ; simp only [execOp]; go_simp) (hK _ W (rfl) hS (Below.refl _ _))
  | 49, ho =>
   obtain rfl := Option.some.inj ho
   have e48 : (ρ (.tmp 81)) = .bool true := by rw [hρ]; exact hd 48 (by decide)
   clear hd
   have g48 : a'.eval (.tmp 81) = .bool true := by rw [← hρ]; exact e48
   refine Or.inr ⟨48, true, true, rfl, by decide, by decide, g48, fun _ KK hK => ?_, fun h => absurd rfl h⟩
   have kk := keepB hS kgj.out
   have c0 := one_cells kk 0 _ rfl
   have c1 := one_cells kk 1 _ rfl
   have c2 := one_cells kk 2 _ rfl
   have c3 := one_cells kk 3 _ rfl
   have c4 := one_cells kk 4 _ rfl
   have c5 := one_cells kk 5 _ rfl
   have c6 := one_cells kk 6 _ rfl
   exact wq (u := .agg #[.int .i64 jsw, .int .i64 jla, .int .i64 jcm, .int .i64 jinp, .slice jsa jsn jsc, .slice jba jbn jbc, .slice jta jtn jtc]) (by rw [← hρ]; clear hρ; simp only [execOp]; go_simp) (hK _ W (rfl) hS (Below.refl _ _))
  | 50, ho =>
   obtain rfl := Option.some.inj ho
   have e48 : (ρ (.tmp 81)) = .bool true := by rw [hρ]; exact hd 48 (by decide)
   clear hd
   have g48 : a'.eval (.tmp 81) = .bool true := by rw [← hρ]; exact e48
   refine Or.inr ⟨48, true, true, rfl, by decide, by decide, g48, fun _ KK hK => ?_, fun h => absurd rfl h⟩
   refine Gives.wp (R := fun v W' => (∃ x : ImV, v = imW x ∧ x.Is W' (sP 12)) ∧ Below W.heap.size W W') (Gives.enter (f := 25) (args := #[.int .i64 12]) (by rw [← hρ]; clear hρ; simp only [execOp]; go_simp) ((CS.out 12 W).mono ?_)) ?_
   ·rintro e w8 ⟨x, rfl, h1, h2⟩; exact ⟨_, rfl, ⟨x, rfl, h1⟩, h2⟩
   ·rintro v' W' ⟨h1, h2⟩; exact hK v' W' h1 (keep_below hS h2) h2
  | 51, ho =>
   obtain rfl := Option.some.inj ho
   have e48 : (ρ (.tmp 81)) = .bool true := by rw [hρ]; exact hd 48 (by decide)
   have e49 : (ρ (.tmp 82)) = .agg #[.int .i64 jsw, .int .i64 jla, .int .i64 jcm, .int .i64 jinp, .slice jsa jsn jsc, .slice jba jbn jbc, .slice jta jtn jtc] := by rw [hρ]; exact hd 49 (by decide)
   have e50 : ∃ x : ImV, (ρ (.tmp 83)) = imW x ∧ x.Is W (sP 12) := by rw [hρ]; exact hd 50 (by decide)
   clear hd
   have g48 : a'.eval (.tmp 81) = .bool true := by rw [← hρ]; exact e48
   refine Or.inr ⟨48, true, true, rfl, by decide, by decide, g48, fun _ KK hK => ?_, fun h => absurd rfl h⟩
   obtain ⟨x9, h0, h1⟩ := e50
   refine Gives.wp (R := fun v W' => v = .bool true ∧ Below W.heap.size W W') (Gives.enter (f := 28) (args := #[.agg #[.int .i64 jsw, .int .i64 jla, .int .i64 jcm, .int .i64 jinp, .slice jsa jsn jsc, .slice jba jbn jbc, .slice jta jtn jtc], imW x9]) (by rw [← hρ]; clear hρ; simp only [execOp]; go_simp) ((sameIm_any ⟨jsw, jla, jcm, jinp, ⟨jsa, jsn, jsc⟩, ⟨jba, jbn, jbc⟩, ⟨jta, jtn, jtc⟩⟩ x9 (sP 12) W (ij.out.below hS) h1 co12).mono ?_)) ?_
   ·rintro e w8 ⟨rfl, h2⟩; exact ⟨_, rfl, rfl, h2⟩
   ·rintro v' W' ⟨h1, h2⟩; exact hK v' W' h1 (keep_below hS h2) h2
  | 52, ho =>
   obtain rfl := Option.some.inj ho
   have e48 : (ρ (.tmp 81)) = .bool true := by rw [hρ]; exact hd 48 (by decide)
   have e51 : (ρ (.tmp 84)) = .bool true := by rw [hρ]; exact hd 51 (by decide)
   clear hd
   refine Or.inl ⟨rfl, fun KK hK => ?_⟩
   exact wq (u := .bool true) (by rw [← hρ]; clear hρ; simp only [execOp]; go_simp) (hK _ W (rfl) hS (Below.refl _ _))
  | 53, ho =>
   obtain rfl := Option.some.inj ho
   have e52 : (ρ (.tmp 85)) = .bool true := by rw [hρ]; exact hd 52 (by decide)
   clear hd
   refine Or.inl ⟨rfl, fun KK hK => ?_⟩
   exact wq (u := .bool true) (by rw [← hρ]; clear hρ; simp only [execOp]; go_simp) (hK _ W (rfl) hS (Below.refl _ _))
  | 54, ho =>
   obtain rfl := Option.some.inj ho
   have e53 : (ρ (.tmp 86)) = .bool true := by rw [hρ]; exact hd 53 (by decide)
   clear hd
   have g53 : a'.eval (.tmp 86) = .bool true := by rw [← hρ]; exact e53
   refine Or.inr ⟨53, true, true, rfl, by decide, by decide, g53, fun _ KK hK => ?_, fun h => absurd rfl h⟩
   exact wq (u := .pointer (some ⟨gs, 0, none⟩)) (by rw [← hρ]; clear hρ; simp only [execOp]; go_simp) (hK _ W (rfl) hS (Below.refl _ _))
  | 55, ho =>
   obtain rfl := Option.some.inj ho
   have e53 : (ρ (.tmp 86)) = .bool true := by rw [hρ]; exact hd 53 (by decide)
   have e54 : (ρ (.tmp 87)) = .pointer (some ⟨gs, 0, none⟩) := by rw [hρ]; exact hd 54 (by decide)
   clear hd
   have g53 : a'.eval (.tmp 86) = .bool true := by rw [← hρ]; exact e53
   refine Or.inr ⟨53, true, true, rfl, by decide, by decide, g53, fun _ KK hK => ?_, fun h => absurd rfl h⟩
   have kk := keepB hS kgs.out
   have c0 := one_cells kk 0 _ rfl
   exact wq (u := .int .i64 5) (by rw [← hρ]; clear hρ; simp only [execOp]; go_simp) (hK _ W (rfl) hS (Below.refl _ _))
  | 56, ho =>
   obtain rfl := Option.some.inj ho
   have e53 : (ρ (.tmp 86)) = .bool true := by rw [hρ]; exact hd 53 (by decide)
   have e55 : (ρ (.tmp 88)) = .int .i64 5 := by rw [hρ]; exact hd 55 (by decide)
   clear hd
   have g53 : a'.eval (.tmp 86) = .bool true := by rw [← hρ]; exact e53
   refine Or.inr ⟨53, true, true, rfl, by decide, by decide, g53, fun _ KK hK => ?_, fun h => absurd rfl h⟩
   exact wq (u := .bool true) (by rw [← hρ]; clear hρ; simp only [execOp]; go_simp) (hK _ W (rfl) hS (Below.refl _ _))
  | 57, ho =>
   obtain rfl := Option.some.inj ho
   have e53 : (ρ (.tmp 86)) = .bool true := by rw [hρ]; exact hd 53 (by decide)
   have e56 : (ρ (.tmp 89)) = .bool true := by rw [hρ]; exact hd 56 (by decide)
   clear hd
   refine Or.inl ⟨rfl, fun KK hK => ?_⟩
   exact wq (u := .bool true) (by rw [← hρ]; clear hρ; simp only [execOp]; go_simp) (hK _ W (rfl) hS (Below.refl _ _))
  | 58, ho =>
   obtain rfl := Option.some.inj ho
   have e57 : (ρ (.tmp 90)) = .bool true := by rw [hρ]; exact hd 57 (by decide)
   clear hd
   refine Or.inl ⟨rfl, fun KK hK => ?_⟩
   exact wq (u := .bool true) (by rw [← hρ]; clear hρ; simp only [execOp]; go_simp) (hK _ W (rfl) hS (Below.refl _ _))
  | 59, ho =>
   obtain rfl := Option.some.inj ho
   have e58 : (ρ (.tmp 91)) = .bool true := by rw [hρ]; exact hd 58 (by decide)
   clear hd
   have g58 : a'.eval (.tmp 91) = .bool true := by rw [← hρ]; exact e58
   refine Or.inr ⟨58, true, true, rfl, by decide, by decide, g58, fun _ KK hK => ?_, fun h => absurd rfl h⟩
   exact wq (u := .pointer (some ⟨gs, 1, none⟩)) (by rw [← hρ]; clear hρ; simp only [execOp]; go_simp) (hK _ W (rfl) hS (Below.refl _ _))
  | 60, ho =>
   obtain rfl := Option.some.inj ho
   have e58 : (ρ (.tmp 91)) = .bool true := by rw [hρ]; exact hd 58 (by decide)
   have e59 : (ρ (.tmp 92)) = .pointer (some ⟨gs, 1, none⟩) := by rw [hρ]; exact hd 59 (by decide)
   clear hd
   have g58 : a'.eval (.tmp 91) = .bool true := by rw [← hρ]; exact e58
   refine Or.inr ⟨58, true, true, rfl, by decide, by decide, g58, fun _ KK hK => ?_, fun h => absurd rfl h⟩
   have kk := keepB hS kgs.out
   have c1 := one_cells kk 1 _ rfl
   exact wq (u := .int .i64 (-1)) (by rw [← hρ]; clear hρ; simp only [execOp]; go_simp) (hK _ W (rfl) hS (Below.refl _ _))
  | 61, ho =>
   obtain rfl := Option.some.inj ho
   have e58 : (ρ (.tmp 91)) = .bool true := by rw [hρ]; exact hd 58 (by decide)
   have e60 : (ρ (.tmp 93)) = .int .i64 (-1) := by rw [hρ]; exact hd 60 (by decide)
   clear hd
   have g58 : a'.eval (.tmp 91) = .bool true := by rw [← hρ]; exact e58
   refine Or.inr ⟨58, true, true, rfl, by decide, by decide, g58, fun _ KK hK => ?_, fun h => absurd rfl h⟩
   exact wq (u := .bool true) (by rw [← hρ]; clear hρ; simp only [execOp]; go_simp) (hK _ W (rfl) hS (Below.refl _ _))
  | 62, ho =>
   obtain rfl := Option.some.inj ho
   have e58 : (ρ (.tmp 91)) = .bool true := by rw [hρ]; exact hd 58 (by decide)
   have e61 : (ρ (.tmp 94)) = .bool true := by rw [hρ]; exact hd 61 (by decide)
   clear hd
   refine Or.inl ⟨rfl, fun KK hK => ?_⟩
   exact wq (u := .bool true) (by rw [← hρ]; clear hρ; simp only [execOp]; go_simp) (hK _ W (rfl) hS (Below.refl _ _))
  | 63, ho =>
   obtain rfl := Option.some.inj ho
   have e62 : (ρ (.tmp 95)) = .bool true := by rw [hρ]; exact hd 62 (by decide)
   clear hd
   refine Or.inl ⟨rfl, fun KK hK => ?_⟩
   exact wq (u := .bool true) (by rw [← hρ]; clear hρ; simp only [execOp]; go_simp) (hK _ W (rfl) hS (Below.refl _ _))
  | k + 64, ho => simp at ho
 ·exact ⟨rfl, rfl, rfl, Nat.le_refl _, fun _ _ => rfl⟩
 ·intro a' W hsz hdef hoth hok hS
  have hcov : ∀ i, i < 64 → (fun i => ([33, 34, 35, 36, 37, 38, 39, 40, 41, 42, 43, 44, 45, 46, 47, 48, 49, 50, 51, 52, 53, 54, 55, 56, 57, 58, 59, 60, 61, 62, 63, 64, 65, 66, 67, 68, 69, 70, 71, 72, 73, 74, 75, 76, 77, 78, 79, 80, 81, 82, 83, 84, 85, 86, 87, 88, 89, 90, 91, 92, 93, 94, 95, 0] : List Nat).getD i 0) i < 96 → (33 ≤ (fun i => ([33, 34, 35, 36, 37, 38, 39, 40, 41, 42, 43, 44, 45, 46, 47, 48, 49, 50, 51, 52, 53, 54, 55, 56, 57, 58, 59, 60, 61, 62, 63, 64, 65, 66, 67, 68, 69, 70, 71, 72, 73, 74, 75, 76, 77, 78, 79, 80, 81, 82, 83, 84, 85, 86, 87, 88, 89, 90, 91, 92, 93, 94, 95, 0] : List Nat).getD i 0) i ∧ (fun i => ([33, 34, 35, 36, 37, 38, 39, 40, 41, 42, 43, 44, 45, 46, 47, 48, 49, 50, 51, 52, 53, 54, 55, 56, 57, 58, 59, 60, 61, 62, 63, 64, 65, 66, 67, 68, 69, 70, 71, 72, 73, 74, 75, 76, 77, 78, 79, 80, 81, 82, 83, 84, 85, 86, 87, 88, 89, 90, 91, 92, 93, 94, 95, 0] : List Nat).getD i 0) i < 96) ∨ (fun i => ([33, 34, 35, 36, 37, 38, 39, 40, 41, 42, 43, 44, 45, 46, 47, 48, 49, 50, 51, 52, 53, 54, 55, 56, 57, 58, 59, 60, 61, 62, 63, 64, 65, 66, 67, 68, 69, 70, 71, 72, 73, 74, 75, 76, 77, 78, 79, 80, 81, 82, 83, 84, 85, 86, 87, 88, 89, 90, 91, 92, 93, 94, 95, 0] : List Nat).getD i 0) i = 0 := by decide
  have hv9 : a'.eval (.tmp 0) = .bool true := hok 63 (by decide)
  clear hok
  obtain ⟨us, hu1, rfl⟩ := Kd.act_mix1 33 63 0 (.bool true) rfl hsz hdef (by simp) (by simp) hv9 (by decide) (fun k hkd hk => by
   by_cases hkT : k < 96
   ·exact hoth k (fun i hi e => by have := hcov i hi (Nat.lt_of_le_of_lt (Nat.le_of_eq e) hkT); dsimp only at this e; omega)
   ·rw [eval_out (by rw [hsz]; omega), eval_out (by simp; omega)])
  clear hoth hcov
  match us, hu1 with
  | u33 :: u34 :: u35 :: u36 :: u37 :: u38 :: u39 :: u40 :: u41 :: u42 :: u43 :: u44 :: u45 :: u46 :: u47 :: u48 :: u49 :: u50 :: u51 :: u52 :: u53 :: u54 :: u55 :: u56 :: u57 :: u58 :: u59 :: u60 :: u61 :: u62 :: u63 :: u64 :: u65 :: u66 :: u67 :: u68 :: u69 :: u70 :: u71 :: u72 :: u73 :: u74 :: u75 :: u76 :: u77 :: u78 :: u79 :: u80 :: u81 :: u82 :: u83 :: u84 :: u85 :: u86 :: u87 :: u88 :: u89 :: u90 :: u91 :: u92 :: u93 :: u94 :: u95 :: [], _ =>
   have hb9 := keep_below HB7.out hS
   clear hS hsz hdef hu1
   go_wp2
   go_ret
   exact ⟨rfl, hb9⟩
end Go.Proofs.YtngehojibcmieaaGreatDoor
end
