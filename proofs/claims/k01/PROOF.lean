import PyProof.Rows.All
import Wide.All
import OpenK.AllK
import Wide.FinOn
import PySem.Challenge.RW_worthrooms_k01_towns_and_standings_looke
import HandS.Head0
import HandS.Head1
import HandS.Head2
import HandS.HeadHook4
import HandS.HeadWalk
import HandS.Flow
import HandS.ForMost
import HandS.ForExc
import HandS.ExcInit
import HandS.Defaults
import KE.KExcIs
import HandS.ExcField
import HandS.IsInst
import HandS.Codes
import HandS.TupAny
import HandS.AnyAll
import HandS.Walk
import PyProof.EqKinds
import PyProof.FactsAll.dict_1
import PyProof.FactsAll.subtypes_4
import PyProof.NeKinds
import KE.GoesMore
import KE.GoesEnum
import HandS.DictComp
import HandS.Style
import HandS.WideBits
import HandS.List
import HandS.Deep
import HandS.Iter
import HandS.EndTab
import PyProof.ReprRoads
set_option Elab.async false
set_option linter.all false
set_option maxRecDepth 100000
set_option maxHeartbeats 0
namespace WR
open PySem PySem.Spec PyProof.Rows L2
/-! ## An exception that a name keeps behind its suite -/
def ExK (cls : Value) (d : Option Addr) (a : Addr) : HO := .ext fun h => ∃ oe : Obj, h.get? a = some oe ∧ Zc cls d oe ∧ ∃ vs, oe.data = .fields vs
theorem exK_ok {P : Program} {w : World} {H : Hp} {h : Heap} {a : Addr} {cls : Value} {d : Option Addr} {oe : Obj} {vs : Array Value} (e : h.get? a = some oe) (z : Zc cls d oe) (hd : oe.data = .fields vs) :
    ObjOk P w H h a (ExK cls d a) :=
  ⟨⟨oe, e, z, vs, hd⟩, ⟨oe, e⟩, fun _ _ ⟨o, q, r⟩ k => ⟨o, k o q, r⟩⟩
theorem exK_at {P : Program} {w : World} {H : Hp} {h : Heap} {a : Addr} {cls : Value} {d : Option Addr} (ok : HOk P w H h) (e : H a = some (ExK cls d a)) : ∃ oe : Obj, h.get? a = some oe ∧ Zc cls d oe ∧ ∃ vs, oe.data = .fields vs := by
  have x : ObjOk P w H h a (.ext fun h => ∃ oe : Obj, h.get? a = some oe ∧ Zc cls d oe ∧ ∃ vs, oe.data = .fields vs) := ok a _ e
  exact x.1
section
variable {X : Cx} {pins : List (Addr × Obj)} {σ : L2.St} {H : Hp} {s : Shared}
/-- a pinned object of ours becomes a tracked one -/
theorem inv_track {a : Addr} {oe : Obj} {o : HO} (J : Inv X ((a, oe) :: pins) σ H s) (h0 : X.s_0.heap.get? a = none) (np : ∀ p ∈ X.pn ++ pins, p.1 ≠ a) (new : ObjOk X.prog X.w (upd H a o) s.heap a o) :
    Inv X pins σ (upd H a o) s := by
  obtain ⟨hget, hna, hnl, hnf, hnc⟩ := J.pin (a, oe) (List.mem_append_right _ List.mem_cons_self)
  have old : ∀ b u, H b = some u → upd H a o b = some u := fun b u q => by
    rw [upd_ne (ne_of_none q hna)]; exact q
  have off : ∀ b, b ≠ a → upd H a o b = H b := fun b hb => upd_ne hb
  constructor
  · exact J.ok
  · exact J.os
  · exact J.bare
  · constructor
    · exact J.base.keep
    · exact J.base.slot
    · intro b u q n hx
      rw [off b (fun z => by rw [z, h0] at q; cases q)]
      exact J.base.free b u q n hx
    · exact J.base.there
    · exact fun b xs q => old _ _ (J.base.tups b xs q)
    · exact fun b u xs q => old _ _ (J.base.frzs b u xs q)
    · intro b ps q
      obtain ⟨more, q2⟩ := J.base.tbls b ps q
      exact ⟨more, old _ _ q2⟩
  · exact J.loc
  · exact J.cell
  · rw [off _ (Ne.symm hnl)]; exact J.free
  · intro y c q
    have hc : c ≠ a := by
      rintro rfl
      obtain ⟨v, u, q1, q2⟩ := J.cell y c q
      have q3 : s.heap.get? c = some oe := hget
      rw [q3] at q1
      cases q1
      exact hnc v q2
    rw [off _ hc]; exact J.freeC y c q
  · intro p hp
    have hp2 : p ∈ X.pn ++ (a, oe) :: pins := by
      rcases List.mem_append.mp hp with z | z
      · exact List.mem_append_left _ z
      · exact List.mem_append_right _ (List.mem_cons_of_mem _ z)
    obtain ⟨q1, q2, q3, q4, q5⟩ := J.pin p hp2
    exact ⟨q1, by rw [off _ (np p hp)]; exact q2, q3, q4, q5⟩
  · intro b u q
    by_cases hb : b = a
    · subst hb
      rw [upd_same] at q
      cases q
      exact new
    · rw [off b hb] at q
      exact (J.hok b u q).stay (fun _ _ _ z => z) (fun c z => old _ _ z) fun c xs z => old _ _ z
  · exact J.len
/-- out of the suite, the exception still pinned -/
theorem inv_unsuite {a : Addr} {q : Addr × Obj} (J : Inv (X.suite a (q :: (X.pn ++ pins))) [] σ H s) (ok : X.Ok) : Inv X (q :: pins) σ H s := by
  have sub : ∀ p ∈ X.pn ++ q :: pins, p ∈ (X.suite a (q :: (X.pn ++ pins))).pn ++ [] := fun p hp => by
    rw [List.append_nil]
    rcases List.mem_append.mp hp with z | z
    · exact List.mem_cons_of_mem _ (List.mem_append_left _ z)
    · rcases List.mem_cons.mp z with z | z
      · rw [z]; exact List.mem_cons_self
      · exact List.mem_cons_of_mem _ (List.mem_append_right _ z)
  exact { ok := ok, os := J.os, bare := J.bare, base := J.base, loc := J.loc, cell := J.cell, free := J.free, freeC := J.freeC, pin := fun p hp => J.pin p (sub p hp), hok := J.hok, len := J.len }
end
/-- what «except x as n: c = n» wishes of an exception of the body: n in slot i, c in slot j -/
def wKeep (K : PySem.W.Frag) (C : Value) (i j : Nat) (D : Ends) : WX := fun cls d σ H =>
  PySem.W.exmOne K cls C = some true ∧ ∀ a, H a = none → D.nx (((σ.set i (some (.ref a))).set j (some (.ref a))).set i none) (upd H a (ExK cls d a))
section
variable {X : Cx} {x n c : Str} {C : Value} {i j : Nat} {body : List Stmt} {np pos pos' p1 p2 p3 : Pos} {tb : WX → TS}
theorem ps_try_keep (hs : X.stack = X.env :: X.outer) (hf : X.env.frame = some X.env.locals) (hex : X.ex = []) (hN : X.N.Nodup) (hi : X.N[i]? = some n) (hln : X.env.kindOf n = some .local) (hj : X.N[j]? = some c) (hlc : X.env.kindOf c = some .local) (hc : Names X x C)
    (hb : ∀ (W : WX) (pn : List (Addr × Obj)) (xe : Value → Shared → Prop), Takes (X.tr pn xe) W → PassesOwn (model X.prog X.w) X.A X.env xe → PSs (X.tr pn xe) body (tb W))
    (hdb : (n == ("__debug__" : Str)) = false := by decide) (hcd : (n == ("__classdict__" : Str)) = false := by decide) :
    PS X (.Try body [.ExceptHandler (some (.Name x np)) (some n) [.Assign [.Name c p1] (.Name n p2) p3] pos'] [] [] pos) (fun D σ H => tb (wKeep X.K C i j D) D σ H) := by
  constructor
  intro pins s σ H D I h
  have ok := I.ok
  have hfr : X.A.frames = some (X.env :: X.outer) := by rw [ok.frames, hs]
  have hlocn : Loc X.env.scope n := Or.inl hln
  have hlocc : Loc X.env.scope c := Or.inl hlc
  refine wpAny_Try_except ?_
  refine wpAny_mono ((hb (wKeep X.K C i j D) (X.pn ++ pins) (fun er r1 => wpAny (model X.prog X.w) X.A (noteFrame er X.env) (fun _ r2 => wpAny (model X.prog X.w) X.A (setFlight er none) (fun _ r3 =>
    wpAny (model X.prog X.w) X.A (handleBy er X.env [.ExceptHandler (some (.Name x np)) (some n) [.Assign [.Name c p1] (.Name n p2) p3] pos']) (SP X pins D) X.xe r3) X.xe r2) X.xe r1) (fun er s' hair => ?caught) PassesOwn.looking).run [] s σ H D (I.toTry _) h) (fun f s1 hsp => ?thru) (fun er s1 he => he)
  case thru =>
    cases f with
    | next =>
      obtain ⟨τ, G, J, q⟩ := hsp
      exact wpAny_execs_nil ⟨τ, G, J.ofTry ok, q⟩
    | brk =>
      obtain ⟨τ, G, J, q⟩ := hsp
      exact ⟨τ, G, J.ofTry ok, q⟩
    | cont =>
      obtain ⟨τ, G, J, q⟩ := hsp
      exact ⟨τ, G, J.ofTry ok, q⟩
    | ret u =>
      obtain ⟨v, τ, G, J, r, q⟩ := hsp
      exact ⟨v, τ, G, J.ofTry ok, r, q⟩
  case caught =>
    obtain ⟨a, B, sI, ps, τ, G, cls, d, rfl, J0, nb, up, sky, na, os, ag, hb1, hyes⟩ := hair
    have J : Inv X pins τ G sI := J0.ofTry ok
    rw [show (X.tr (X.pn ++ pins) _).stack = X.env :: X.outer from hs] at sky
    show wpAny (model X.prog X.w) X.A (noteFrame (.ref a) X.env) _ _ _
    refine Sky.land Zc.steady hfr hf sky fun k3 fly3 up3 => ?_
    have J3 : Inv X pins τ G { s' with heap := k3 } := J.landed nb fly3.1 (up.trans up3) os ag
    obtain ⟨oe3, vs3, at3, z3, d3⟩ := fly3.there
    have nofr : a ∉ frs (X.env :: X.outer) := fun hm => by
      obtain ⟨_, ob, at4, hnf⟩ := fly3.2.2.1.mem hm
      rw [at3] at at4
      cases at4
      exact hnf _ d3
    have nL : a ≠ X.env.locals := fun z => nofr (List.mem_filterMap.mpr ⟨X.env, List.mem_cons_self, by rw [hf, z]⟩)
    have nF : a ∉ X.fs := fun hm => by
      obtain ⟨en, hen, q⟩ := List.mem_filterMap.mp hm
      exact nofr (List.mem_filterMap.mpr ⟨en, List.mem_cons_of_mem _ hen, q⟩)
    have newI : sI.heap.get? a = none := by
      cases q : sI.heap.get? a with
      | none => rfl
      | some ob =>
        have z := nb a ob q (by rw [show (X.tr (X.pn ++ pins) _).stack = X.env :: X.outer from hs]; exact nofr)
        rw [fly3.2.1] at z
        cases z
    have new0 : X.s_0.heap.get? a = none := by
      cases q : X.s_0.heap.get? a with
      | none => rfl
      | some ob =>
        obtain ⟨ob2, z⟩ := J.base.there a ob q (by rw [hex]; simp)
        rw [newI] at z
        cases z
    have npin : ∀ p ∈ X.pn ++ pins, p.1 ≠ a := fun p hp z => by
      have q := (J.pin p hp).1
      rw [z, newI] at q
      cases q
    have S3 := J3.suite at3 d3 na nL nF
    refine wpAny_handleBy_cons (codeAny_handlers_test ?_) (by intro q; cases q)
    have LT : PySem.W.Looks (model X.prog X.w) k3 (typeOf (.ref a)) cls := fun A2 Q2 E2 s2 k q => wpAny_typeOf_ref (k _ _ at3) (by rw [z3.1]; exact q)
    have LM := PySem.W.exm_one (M := model X.prog X.w) (J3.kIn) LT hb1
    have clause : ∀ {Q : Value → Shared → Prop} {E : Value → Shared → Prop}, Q C { s' with heap := k3 } → wpAny (model X.prog X.w) (X.A.mark (some (.ref a))) (eval (.Name x np) X.env) Q E { s' with heap := k3 } := fun {Q E} q => by
      obtain ⟨hg, hdbg, hm | ⟨hm, hv, hnn⟩⟩ := hc
      · exact ld_glob (X := X.suite a ((a, oe3) :: (X.pn ++ pins))) S3 hg hm q hdbg
      · exact ld_blt (X := X.suite a ((a, oe3) :: (X.pn ++ pins))) S3 hg hm hv q hnn hdbg
    refine clause (LM.here ?_)
    refine codeAny_handlers_suite_as ?_
    refine HandSPX.lands_againZ fly3 fun k4 fly4 up4 => ?_
    have J4 : Inv X pins τ G { s' with heap := k4 } := J.landed nb fly4.1 ((up.trans up3).trans up4) os ag
    obtain ⟨oe4, vs4, at4, z4, d4⟩ := fly4.there
    have S4 := J4.suite at4 d4 na nL nF
    refine store_ok (X := X.suite a ((a, oe4) :: (X.pn ++ pins))) (v := .ref a) S4 hN hi hlocn rfl (fun s5 S5 => ?_) (Or.inr hln)
    have body1 : PSs (X.suite a ((a, oe4) :: (X.pn ++ pins))) [.Assign [.Name c p1] (.Name n p2) p3] (tAsg (tVar i) (gName j)) :=
      pss_one (ps_set (i := j) hN hj hlocc (pe_var (i := i) hi (Or.inl hln) hdb hcd) (by rfl) (Or.inr hlc))
    refine wpAny_mono (body1.run [] s5 _ G { nx := fun σ6 H6 => σ6 = (τ.set i (some (.ref a))).set j (some (.ref a)) ∧ H6 = G, rt := fun _ _ => False, bk := fun _ _ => False, ct := fun _ _ => False } S5 ?_) (fun f s6 hsp => ?_) (fun _ _ z => False.elim z)
    · refine ⟨.ref a, ?_, rfl, rfl⟩
      have hl : i < τ.length := by rw [J.len]; exact (List.getElem?_eq_some_iff.mp hi).1
      exact List.getElem?_set_self hl
    · cases f with
      | next =>
        obtain ⟨σ6, H6, S6, rfl, rfl⟩ := hsp
        refine gone_ok (inv_unsuite S6 ok) hN hi hln fun s7 J7 => ?_
        obtain ⟨at7, _⟩ := J7.pin (a, oe4) (List.mem_append_right _ List.mem_cons_self)
        exact ⟨_, _, inv_track J7 new0 npin (exK_ok at7 z4 d4), hyes a na⟩
      | brk =>
        obtain ⟨_, _, _, q⟩ := hsp
        exact q.elim
      | cont =>
        obtain ⟨_, _, _, q⟩ := hsp
        exact q.elim
      | ret u =>
        obtain ⟨_, _, _, _, _, q⟩ := hsp
        exact q.elim
end
end WR
namespace WR
open PySem PySem.Spec PyProof.Rows L2
/-! ## isinstance and fields of a kept exception -/
structure ExcI (K : PySem.W.Frag) (D : Addr) : Prop where
  c1 : (PySem.W.clsIn K D).isSome = true
  c2 : PySem.W.findIn K (.ref D) "__getattribute__" = some (some (.builtin "BaseException.__getattribute__"))
  c3 : PySem.W.findIn K (.ref D) "__getattr__" = some none
  c4 : PySem.W.subIn K (.ref D) (.type "BaseException") = some true
  c5 : PySem.W.findIn K (.ref D) "__class__" = some (some (.builtin "object.__class__"))
  c6 : PySem.W.specialIn K (.builtin "object.__class__") "__get__" = some (some (.builtin "getset_descriptor.__get__"))
  c7 : PySem.W.takesIn K (.builtin "object.__class__") = some true
  c8 : PySem.W.mroIn K D (.type "object") = some true
  c9 : PySem.W.hasDictIn K D = true
/-- the dict's address, if there is one, is tracked -/
def DictAt (H : Hp) (d : Option Addr) : Prop := d = none ∨ ∃ dd fs, d = some dd ∧ H dd = some (.xd fs)
inductive Kept (K : PySem.W.Frag) (H : Hp) : V → Value → Prop where
  | non : Kept K H .non (.type "NoneType")
  | exc {a D : Addr} {d : Option Addr} (e : H a = some (ExK (.ref D) d a)) (ed : DictAt H d) (C : ExcI K D) : Kept K H (.ref a) (.ref D)
def rIsK (K : PySem.W.Frag) : List V → Hp → VK → Prop := fun xs H Q => ∃ (x c : V) (t u : Value) (b : Bool), xs = [x, c] ∧ ClsV c u ∧ Kept K H x t ∧ PySem.W.kitOne K t u = some b ∧ Q (.bl b) H
section
variable {X : Cx} {pins : List (Addr × Obj)} {σ : L2.St} {H : Hp} {s : Shared}
theorem xd_there {a : Addr} {fs : List (Str × V)} (I : Inv X pins σ H s) (e : H a = some (.xd fs)) : ∃ o, s.heap.get? a = some o := by
  obtain ⟨mA, ⟨o, _, _, q, _⟩, _⟩ := (show ObjOk X.prog X.w H s.heap a (.xd fs) from I.hok a _ e)
  exact ⟨o, q⟩
theorem call_isK : CallR X (.builtin "isinstance") (rIsK X.K) := by
  intro pins s σ H xs us Q I r h
  obtain ⟨x, c, t, u, b, rfl, k, kp, e, q⟩ := h
  obtain ⟨u1, u2, rfl, r1, r2⟩ := vals2 r
  have e2 := k.eq r2
  subst e2
  cases kp with
  | non =>
    cases (show u1 = Value.none from r1)
    exact PySem.W.kia_one PySem.W.kitx_none I.kIn True.intro e (fun z => nomatch z) fun tk => ⟨.bl b, H, I.tok tk, rfl, q⟩
  | @exc a D d ea ed C =>
    cases (show u1 = Value.ref a from r1)
    obtain ⟨oe, q1, ⟨q2, q3⟩, vs, q4⟩ := exK_at I.hok ea
    have nc : PySem.W.notCls oe = true := by unfold PySem.W.notCls; rw [q4] <;> rfl
    have inst : ∃ od, PySem.W.InstAt s.heap a oe D od := by
      rcases ed with z | ⟨dd, fs, z, ez⟩
      · exact ⟨none, q1, q2, nc, by rw [q3, z] <;> exact True.intro⟩
      · obtain ⟨o, z2⟩ := xd_there I ez
        exact ⟨some o, q1, q2, nc, by rw [q3, z] <;> exact z2⟩
    obtain ⟨od, J⟩ := inst
    exact PySem.W.kia_one (PySem.W.kitx_exc C.c1 C.c2 C.c3 C.c4 C.c5 C.c6 C.c7 C.c8) I.kIn J e (fun z => nomatch z) fun tk => ⟨.bl b, H, I.tok tk, rfl, q⟩
end
/-- c.f, c a name that keeps an exception of the class D -/
def tKept (K : PySem.W.Frag) (f : Str) (te : TE) : TE := fun σ H Q => te σ H fun x H1 => ∃ (a D dd : Addr) (fs : List (Str × V)) (v : V),
  x = .ref a ∧ H1 a = some (ExK (.ref D) (some dd) a) ∧ H1 dd = some (.xd fs) ∧ ExcI K D ∧ PySem.W.findIn K (.ref D) f = some none ∧ fs.lookup f = some v ∧ Q v H1
theorem pe_kept {X : Cx} {e : Expr} {te : TE} {f : Str} {pos : Pos} (he : PE X e te) (hb : attributeBase e f X.env (eval e X.env) = eval e X.env := by rfl) : PE X (.Attribute e f pos) (tKept X.K f te) := by
  constructor
  intro pins s σ H Q I h
  refine attr_of hb (thn (he.run pins s σ H _ I h) fun u s1 z => ?_)
  obtain ⟨x, H1, J, rx, a, D, dd, fs, v, rfl, ea, ed, C, hno, hl, q⟩ := z
  cases (show u = Value.ref a from rx)
  obtain ⟨oe, q1, ⟨q2, q3⟩, vs, q4⟩ := exK_at J.hok ea
  obtain ⟨mA, hns, hr⟩ := (show ObjOk X.prog X.w H1 s1.heap dd (.xd fs) from J.hok dd _ ed)
  obtain ⟨od, ho, hlook⟩ := lookIn_ns hns
  have hrf := hr f
  rw [hl] at hrf
  cases hm : mA f with
  | none => rw [hm] at hrf; exact hrf.elim
  | some u2 =>
    rw [hm] at hrf
    have IA : PySem.W.InstAt s1.heap a oe D (some od) := ⟨q1, q2, by unfold PySem.W.notCls; rw [q4] <;> rfl, by rw [q3] <;> exact ho⟩
    exact HandSPX.exc_get J.kIn IA C.c2 C.c3 C.c4 (PySem.W.findObj_own C.c9 hno rfl (by rw [hlook, hm])) (handed_of (show RelV v u2 from hrf)) ⟨v, H1, J.tok _, hrf, q⟩
/-- the Bool for the head -/
def excIB (K : PySem.W.Frag) (D : Addr) : Bool :=
  (PySem.W.clsIn K D).isSome && (decide (PySem.W.findIn K (.ref D) "__getattribute__" = some (some (.builtin "BaseException.__getattribute__"))) && (decide (PySem.W.findIn K (.ref D) "__getattr__" = some none) &&
  (decide (PySem.W.subIn K (.ref D) (.type "BaseException") = some true) && (decide (PySem.W.findIn K (.ref D) "__class__" = some (some (.builtin "object.__class__"))) &&
  (decide (PySem.W.specialIn K (.builtin "object.__class__") "__get__" = some (some (.builtin "getset_descriptor.__get__"))) && (decide (PySem.W.takesIn K (.builtin "object.__class__") = some true) &&
  (decide (PySem.W.mroIn K D (.type "object") = some true) && PySem.W.hasDictIn K D)))))))
theorem excIB_ok {K : PySem.W.Frag} {D : Addr} (h : excIB K D = true) : ExcI K D := by
  unfold excIB at h
  simp only [Bool.and_eq_true, decide_eq_true_eq] at h
  obtain ⟨a1, a2, a3, a4, a5, a6, a7, a8, a9⟩ := h
  exact ⟨a1, a2, a3, a4, a5, a6, a7, a8, a9⟩
end WR
namespace WR
open PySem PySem.Spec PyProof.Rows L2
/-! ## What stays: all that is tracked; tables of code objects may grow -/
structure StayT (H H' : Hp) : Prop where
  same : ∀ b o, H b = some o → (∀ ps, o ≠ .tbl ps) → H' b = some o
  tab : ∀ b ps, H b = some (.tbl ps) → ∃ ps', H' b = some (.tbl ps') ∧ (TriplesOk ps.toList → TriplesOk ps'.toList)
theorem StayT.refl (H : Hp) : StayT H H := ⟨fun _ _ e _ => e, fun _ ps e => ⟨ps, e, id⟩⟩
theorem StayT.trans {H H1 H2 : Hp} (a : StayT H H1) (b : StayT H1 H2) : StayT H H2 := by
  refine ⟨fun c o e n => b.same c o (a.same c o e n) n, fun c ps e => ?_⟩
  obtain ⟨p1, e1, t1⟩ := a.tab c ps e
  obtain ⟨p2, e2, t2⟩ := b.tab c p1 e1
  exact ⟨p2, e2, fun t => t2 (t1 t)⟩
theorem StayT.none {H H' : Hp} {p : Addr} (s : StayT H H') (h : H' p = none) : H p = none := by
  cases q : H p with
  | none => rfl
  | some o =>
    by_cases t : ∃ ps, o = .tbl ps
    · obtain ⟨ps, rfl⟩ := t
      obtain ⟨ps2, e, _⟩ := s.tab p ps q
      rw [h] at e
      cases e
    · have e := s.same p o q fun ps z => t ⟨ps, z⟩
      rw [h] at e
      cases e
/-- what is not in H may change -/
theorem StayT.upd {H H' : Hp} {p : Addr} {o : HO} (s : StayT H H') (h : H p = Option.none) : StayT H (L2.upd H' p o) := by
  refine ⟨fun b u e n => ?_, fun b ps e => ?_⟩
  · rw [upd_ne (ne_of_none e h)]; exact s.same b u e n
  · rw [upd_ne (ne_of_none e h)]; exact s.tab b ps e
theorem StayT.new {H H' : Hp} {p : Addr} {o : HO} (s : StayT H H') (h : H' p = Option.none) : StayT H (L2.upd H' p o) := s.upd (s.none h)
theorem StayT.tabbed {P : Addr} {H H' : Hp} (t : GxR.Tabbed P H H') (hP : GxR.TabG H P) : StayT H H' := by
  obtain ⟨⟨ps, e, ok⟩, q⟩ := t
  obtain ⟨qs, e0, _⟩ := hP
  refine ⟨fun b o eb n => ?_, fun b rs eb => ?_⟩
  · have hb : b ≠ P := fun z => by
      rw [z, e0] at eb
      cases eb
      exact n _ rfl
    rw [q b hb]; exact eb
  · by_cases hb : b = P
    · exact ⟨ps, by rw [hb]; exact e, fun _ => ok⟩
    · exact ⟨rs, by rw [q b hb]; exact eb, id⟩
theorem StayT.tabG {H H' : Hp} {P : Addr} (s : StayT H H') (t : GxR.TabG H P) : GxR.TabG H' P := by
  obtain ⟨ps, e, ok⟩ := t
  obtain ⟨p2, e2, t2⟩ := s.tab P ps e
  exact ⟨p2, e2, t2 ok⟩
/-- H without what stands at p -/
def wo (H : Hp) (p : Addr) : Hp := fun b => if b = p then none else H b
theorem wo_same {H : Hp} {p : Addr} : wo H p p = none := if_pos rfl
theorem wo_ne {H : Hp} {p b : Addr} (h : b ≠ p) : wo H p b = H b := if_neg h
theorem wo_some {H : Hp} {p b : Addr} {o : HO} (e : wo H p b = some o) : b ≠ p ∧ H b = some o := by
  by_cases h : b = p
  · rw [h, wo_same] at e; cases e
  · rw [wo_ne h] at e; exact ⟨h, e⟩
theorem stay_wo (H : Hp) (p : Addr) : StayT (wo H p) H :=
  ⟨fun b o e _ => (wo_some e).2, fun b ps e => ⟨ps, (wo_some e).2, id⟩⟩
/-- all but p stays, on and on -/
theorem StayT.transP {H H1 H2 : Hp} {p : Addr} (a : StayT (wo H p) H1) (b : StayT (wo H1 p) H2) : StayT (wo H p) H2 := by
  refine ⟨fun c o e n => b.same c o ?_ n, fun c ps e => ?_⟩
  · rw [wo_ne (wo_some e).1]; exact a.same c o e n
  · obtain ⟨p1, e1, t1⟩ := a.tab c ps e
    obtain ⟨p2, e2, t2⟩ := b.tab c p1 (by rw [wo_ne (wo_some e).1]; exact e1)
    exact ⟨p2, e2, fun t => t2 (t1 t)⟩
theorem StayT.into {H H' : Hp} {p : Addr} (a : StayT (wo H p) H') : StayT (wo H p) (wo H' p) := by
  refine ⟨fun c o e n => ?_, fun c ps e => ?_⟩
  · rw [wo_ne (wo_some e).1]; exact a.same c o e n
  · obtain ⟨p1, e1, t1⟩ := a.tab c ps e
    exact ⟨p1, by rw [wo_ne (wo_some e).1]; exact e1, t1⟩
theorem StayT.less {H H' : Hp} {p : Addr} (a : StayT H H') : StayT (wo H p) H' := (stay_wo H p).trans a
/-! ## Data: none, truths, numbers, texts, lists, tuples, the empty dict -/
mutual
inductive DV (H : Hp) : V → PyData → Prop
  | non : DV H .non .none
  | bl (b : Bool) : DV H (.bl b) (.bool b)
  | int (i : Int) : DV H (.int i) (.int i)
  | str {x : Str} (hl : x.length ≤ 1000) (ho : PySem.PyData.strOk x = true) : DV H (.str x) (.str x)
  | lst {a : Addr} {xs : List V} {ds : List PyData} (e : H a = some (.lst xs)) (h : DVs H xs ds) (hl : ds.length ≤ 1000) : DV H (.ref a) (.list ds)
  | tup {a : Addr} {xs : List V} {ds : List PyData} (e : H a = some (.tup xs)) (h : DVs H xs ds) (hl : ds.length ≤ 1000) : DV H (.ref a) (.tuple ds)
  | dct {a : Addr} (e : H a = some (.dK [])) : DV H (.ref a) (.dict [])
inductive DVs (H : Hp) : List V → List PyData → Prop
  | nil : DVs H [] []
  | cons {v : V} {vs : List V} {d : PyData} {ds : List PyData} (h : DV H v d) (t : DVs H vs ds) : DVs H (v :: vs) (d :: ds)
end
mutual
theorem DV.stay {H H' : Hp} (s : StayT H H') : ∀ {v : V} {d : PyData}, DV H v d → DV H' v d
  | _, _, .non => .non
  | _, _, .bl b => .bl b
  | _, _, .int i => .int i
  | _, _, .str hl ho => .str hl ho
  | _, _, .lst e h hl => .lst (s.same _ _ e fun _ z => nomatch z) (DVs.stay s h) hl
  | _, _, .tup e h hl => .tup (s.same _ _ e fun _ z => nomatch z) (DVs.stay s h) hl
  | _, _, .dct e => .dct (s.same _ _ e fun _ z => nomatch z)
theorem DVs.stay {H H' : Hp} (s : StayT H H') : ∀ {vs : List V} {ds : List PyData}, DVs H vs ds → DVs H' vs ds
  | _, _, .nil => .nil
  | _, _, .cons h t => .cons (DV.stay s h) (DVs.stay s t)
end
theorem DVs.length {H : Hp} : ∀ {vs : List V} {ds : List PyData}, DVs H vs ds → vs.length = ds.length
  | _, _, .nil => rfl
  | _, _, .cons _ t => congrArg Nat.succ (DVs.length t)
theorem DVs.get {H : Hp} : ∀ {vs : List V} {ds : List PyData} {i : Nat} {v : V}, DVs H vs ds → vs[i]? = some v → ∃ d, ds[i]? = some d ∧ DV H v d
  | _, _, _, _, .nil, e => by simp at e
  | _, _, 0, _, .cons h _, e => by
    simp at e
    subst e
    exact ⟨_, rfl, h⟩
  | _, _, i + 1, v, .cons _ t, e => by
    obtain ⟨d, q, h⟩ := DVs.get (i := i) (v := v) t (by simpa using e)
    exact ⟨d, by simpa using q, h⟩
theorem DVs.got {H : Hp} : ∀ {vs : List V} {ds : List PyData} {i : Nat} {d : PyData}, DVs H vs ds → ds[i]? = some d → ∃ v, vs[i]? = some v ∧ DV H v d
  | _, _, _, _, .nil, e => by simp at e
  | _, _, 0, _, .cons h _, e => by
    simp at e
    subst e
    exact ⟨_, rfl, h⟩
  | _, _, i + 1, d, .cons _ t, e => by
    obtain ⟨v, q, h⟩ := DVs.got (i := i) (d := d) t (by simpa using e)
    exact ⟨v, by simpa using q, h⟩
theorem DVs.append {H : Hp} : ∀ {vs ws : List V} {ds es : List PyData}, DVs H vs ds → DVs H ws es → DVs H (vs ++ ws) (ds ++ es)
  | _, _, _, _, .nil, s => s
  | _, _, _, _, .cons h t, s => .cons h (DVs.append t s)
theorem DVs.take {H : Hp} : ∀ {vs : List V} {ds : List PyData} (n : Nat), DVs H vs ds → DVs H (vs.take n) (ds.take n)
  | _, _, 0, _ => .nil
  | _, _, _ + 1, .nil => .nil
  | _, _, n + 1, .cons h t => .cons h (DVs.take n t)
theorem DVs.drop {H : Hp} : ∀ {vs : List V} {ds : List PyData} (n : Nat), DVs H vs ds → DVs H (vs.drop n) (ds.drop n)
  | _, _, 0, r => r
  | _, _, _ + 1, .nil => .nil
  | _, _, n + 1, .cons _ t => DVs.drop n t
/-- all texts are texts, no dict -/
theorem DVs.one {H : Hp} {v : V} {d : PyData} (h : DV H v d) : DVs H [v] [d] := .cons h .nil
theorem DVs.two {H : Hp} {v v2 : V} {d d2 : PyData} (h : DV H v d) (h2 : DV H v2 d2) : DVs H [v, v2] [d, d2] := .cons h (.cons h2 .nil)
mutual
/-- plain data is the layer's data -/
theorem DV.dp {K : PySem.W.Frag} {H : Hp} : ∀ {v : V} {d : PyData}, DV H v d → d.hasDict = false → Dp K H v d
  | _, _, .non, _ => .non
  | _, _, .bl b, _ => .bl b
  | _, _, .int i, _ => .int i
  | _, _, .str _ _, _ => .str _
  | _, _, .lst e h _, n => .lst (.inl (.inl e)) (DVs.dps h (by simpa [PyData.hasDict] using n))
  | _, _, .tup e h _, n => .tup (.inl (.inl e)) (DVs.dps h (by simpa [PyData.hasDict] using n))
  | _, _, .dct e, n => by simp [PyData.hasDict] at n
theorem DVs.dps {K : PySem.W.Frag} {H : Hp} : ∀ {vs : List V} {ds : List PyData}, DVs H vs ds → PyData.hasDictAll ds = false → DpAll K H vs ds
  | _, _, .nil, _ => .nil
  | _, _, .cons h t, n => by
    simp only [PyData.hasDictAll, Bool.or_eq_false_iff] at n
    exact .cons (DV.dp h n.1) (DVs.dps t n.2)
end
mutual
theorem DV.canLay {H : Hp} : ∀ {v : V} {d : PyData}, DV H v d → d.hasDict = false → d.canLay0 = true
  | _, _, .non, _ => rfl
  | _, _, .bl b, _ => rfl
  | _, _, .int i, _ => rfl
  | _, _, .str _ ho, _ => by simpa [PyData.canLay0] using ho
  | _, _, .lst e h _, n => by
    have q := DVs.canLays h (by simpa [PyData.hasDict] using n)
    simpa [PyData.canLay0] using q
  | _, _, .tup e h _, n => by
    have q := DVs.canLays h (by simpa [PyData.hasDict] using n)
    simpa [PyData.canLay0] using q
  | _, _, .dct e, n => by simp [PyData.hasDict] at n
theorem DVs.canLays {H : Hp} : ∀ {vs : List V} {ds : List PyData}, DVs H vs ds → PyData.hasDictAll ds = false → PyData.canLayAll0 ds = true
  | _, _, .nil, _ => rfl
  | _, _, .cons h t, n => by
    simp only [PyData.hasDictAll, Bool.or_eq_false_iff] at n
    simp only [PyData.canLayAll0, DV.canLay h n.1, DVs.canLays t n.2, Bool.and_true]
end
/-! ## Rules over data -/
def tyD : PyData → String
  | .none => "NoneType"
  | .bool _ => "bool"
  | .int _ => "int"
  | .str _ => "str"
  | .list _ => "list"
  | .tuple _ => "tuple"
  | .dict _ => "dict"
theorem DV.ty {K : PySem.W.Frag} {H : Hp} {v : V} {d : PyData} (h : DV H v d) : TyX K H v (.type (tyD d)) := by
  cases h with
  | non => exact .base .non
  | bl b => exact .base (.bl b)
  | int i => exact .base (.int i)
  | str _ _ => exact .base (.str _)
  | lst e _ _ => exact .base (.lst e)
  | tup e _ _ => exact .base (.tup e)
  | dct e => exact .base (.dK e)
/-- isinstance(x, n) by the kind -/
def isT (n t : String) : Bool := n == t || (t == "bool" && n == "int")
def isD (n : String) (d : PyData) : Bool := isT n (tyD d)
theorem isT_kit : ∀ t ∈ ["NoneType", "bool", "int", "str", "list", "tuple", "dict"], (kitB t "int" = some (isT "int" t) ∧ kitB t "bool" = some (isT "bool" t)) ∧ (kitB t "str" = some (isT "str" t) ∧ kitB t "tuple" = some (isT "tuple" t)) := by
  decide +kernel
theorem isD_kit {d : PyData} : (kitB (tyD d) "int" = some (isD "int" d) ∧ kitB (tyD d) "bool" = some (isD "bool" d)) ∧ (kitB (tyD d) "str" = some (isD "str" d) ∧ kitB (tyD d) "tuple" = some (isD "tuple" d)) :=
  isT_kit (tyD d) (by cases d <;> simp [tyD])
def rIsD : List V → Hp → VK → Prop := fun xs H Q => ∃ (v : V) (n : String) (d : PyData), xs = [v, .ty n] ∧ DV H v d ∧ (n = "int" ∨ n = "bool" ∨ n = "str" ∨ n = "tuple") ∧ Q (.bl (isD n d)) H
theorem call_isD {X : Cx} : CallR X (.builtin "isinstance") rIsD := by
  intro pins s σ H xs us Q I r h
  obtain ⟨v, n, d, rfl, hd, hn, q⟩ := h
  refine call_isi pins s σ H _ us Q I r ⟨v, .ty n, _, _, isD n d, rfl, .ty n, hd.ty, ?_, q⟩
  obtain ⟨⟨k1, k2⟩, k3, k4⟩ := isD_kit (d := d)
  rcases hn with rfl | rfl | rfl | rfl
  · exact kit_ty k1
  · exact kit_ty k2
  · exact kit_ty k3
  · exact kit_ty k4
/-- len of data -/
def lenD : PyData → Option Nat
  | .str x => some x.length
  | .list l => some l.length
  | .tuple l => some l.length
  | .dict l => none
  | _ => none
def rLenD : List V → Hp → VK → Prop := fun xs H Q => ∃ (v : V) (d : PyData) (n : Nat), xs = [v] ∧ DV H v d ∧ lenD d = some n ∧ Q (.int n) H
theorem call_lenD' {X : Cx} : CallR X (.builtin "len") rLenD := by
  intro pins s σ H xs us Q I r h
  obtain ⟨v, d, n, rfl, hd, hn, q⟩ := h
  cases hd with
  | non => cases hn
  | bl _ => cases hn
  | int _ => cases hn
  | dct _ => cases hn
  | @str x hl _ =>
    cases hn
    exact call_len_str pins s σ H _ us Q I r ⟨x, rfl, Nat.le_trans hl (by decide), q⟩
  | lst e t _ =>
    cases hn
    exact call_len_seq pins s σ H _ us Q I r ⟨_, _, rfl, .inl (SqL.of e), by rw [t.length]; exact q⟩
  | tup e t _ =>
    cases hn
    exact call_len_seq pins s σ H _ us Q I r ⟨_, _, rfl, .inr (SqT.of e), by rw [t.length]; exact q⟩
/-- x[i] of data, i from 0 on within it -/
def itemD : PyData → Nat → Option PyData
  | .list l, i => l[i]?
  | .tuple l, i => l[i]?
  | .str x, i => (x.cps[i]?).map fun c => .str ⟨#[c]⟩
  | _, _ => none
def rItemD : R2 := fun x y H Q => ∃ (d e : PyData) (i : Nat), DV H x d ∧ y = .int (i : Int) ∧ itemD d i = some e ∧ ∀ v, DV H v e → Q v H
theorem ix_D {X : Cx} : IxR X rItemD := by
  intro value slice pins s σ H x y v u Q I rx ry h hs
  obtain ⟨d, e, i, hd, rfl, he, q⟩ := h
  refine ix_seq value slice pins s σ H x _ v u Q I rx ry ?_ hs
  cases hd with
  | non => cases he
  | bl _ => cases he
  | int _ => cases he
  | dct _ => cases he
  | @str x hl ho =>
    cases hc : x.cps[i]? with
    | none =>
      simp only [itemD, hc, Option.map_none] at he
      cases he
    | some c =>
      simp only [itemD, hc, Option.map_some, Option.some.injEq] at he
      subst he
      have ok : c < 0x110000 := by
        have z := Array.all_eq_true.mp ho i (Array.getElem?_eq_some_iff.mp hc).1
        rw [(Array.getElem?_eq_some_iff.mp hc).2] at z
        simpa using z
      refine .inr (.inr ⟨x, _, c, rfl, rfl, Nat.le_trans hl (by decide), atI_nat (by rw [Array.getElem?_toList]; exact hc), q _ (.str (show 1 ≤ 1000 by decide) (by simp [PySem.PyData.strOk, ok]))⟩)
  | lst e2 t _ =>
    obtain ⟨w, hw, dw⟩ := t.got he
    exact .inl ⟨_, _, _, w, rfl, rfl, SqL.of e2, atI_nat hw, q w dw⟩
  | tup e2 t _ =>
    obtain ⟨w, hw, dw⟩ := t.got he
    exact .inr (.inl ⟨_, _, _, w, rfl, rfl, SqT.of e2, atI_nat hw, q w dw⟩)
/-- == and != of data without dicts, not deeper than 64 -/
def rEqDD (neg : Bool) : R2 := fun x y H Q => ∃ d e, DV H x d ∧ DV H y e ∧ d.hasDict = false ∧ e.hasDict = false ∧ d.depth ≤ 64 ∧ e.depth ≤ 64 ∧ Q (.bl (if neg then !PyData.eqv d e else PyData.eqv d e)) H
theorem shaped_D {H : Hp} {v : V} {d : PyData} (h : DV H v d) (n : d.hasDict = false) (l : d.depth ≤ 64) : SeqAt.shaped d = true := by
  unfold SeqAt.shaped
  rw [DV.canLay h n, decide_eq_true l]
  rfl
theorem op_eqDD {X : Cx} (hu : X.A.units + 64 < cLine) : OpR X (compareOp .Eq) (rEqDD false) := by
  intro pins s σ H x y v u Q I rx ry h
  obtain ⟨d, e, hd, he, nd, ne, ld, le, q⟩ := h
  exact op_eqD hu pins s σ H x y v u Q I rx ry ⟨d, e, hd.dp nd, he.dp ne, shaped_D hd nd ld, shaped_D he ne le, q⟩
theorem op_neDD {X : Cx} (hu : X.A.units + 64 < cLine) : OpR X (compareOp .NotEq) (rEqDD true) := by
  intro pins s σ H x y v u Q I rx ry h
  obtain ⟨d, e, hd, he, nd, ne, ld, le, q⟩ := h
  exact op_neD hu pins s σ H x y v u Q I rx ry ⟨d, e, hd.dp nd, he.dp ne, shaped_D hd nd ld, shaped_D he ne le, q⟩
/-- x == (), x any data -/
def isUnit : PyData → Bool
  | .tuple [] => true
  | _ => false
end WR
namespace WR
open PySem PySem.Spec PyProof.Rows L2
open PySem.SeqAt
/-! ## x == () -/
theorem dict_declines_tuple (l b : Addr) (es : Array DictEntry) (items2 : Array Value) (n n2 : Nat) (dd dd2 : Option Addr) (sl sl2 : Array (Option Value)) :
    Meets (Builtin.«dict.__eq__» ⟨[.ref l, .ref b], []⟩) (fun _ R s => s.heap.get? l = some { cls := .type "dict", dict := dd, data := .dict es n, slots := sl } ∧ s.heap.get? b = some { cls := .type "tuple", dict := dd2, data := .seq items2 n2, slots := sl2 } ∧ R (.ok (.ret .notImplemented)) s) :=
  .of_wp fun prog w A R s h => by
    obtain ⟨hp, g, d, tk, os⟩ := s
    obtain ⟨hl, hb, h⟩ := h
    have f1 := PySem.F.sub_tuple_dict
    wp_walk using AutoSeq1.wpAny_loadPart' hl, AutoSeq1.wpAny_loadPart' hb
    exact ⟨_, rfl, h⟩
theorem tuple_declines_dict (l b : Addr) (es : Array DictEntry) (items2 : Array Value) (n n2 : Nat) (dd dd2 : Option Addr) (sl sl2 : Array (Option Value)) :
    Meets (Builtin.«tuple.__eq__» ⟨[.ref b, .ref l], []⟩) (fun _ R s => s.heap.get? b = some { cls := .type "tuple", dict := dd2, data := .seq items2 n2, slots := sl2 } ∧ s.heap.get? l = some { cls := .type "dict", dict := dd, data := .dict es n, slots := sl } ∧ R (.ok (.ret .notImplemented)) s) :=
  .of_wp fun prog w A R s h => by
    obtain ⟨hp, g, d, tk, os⟩ := s
    obtain ⟨hb, hl, h⟩ := h
    have f1 : isSubtype (.type "dict") (.type "tuple") = pure false := by rw [isSubtype_type]; kernel_rfl
    wp_walk using AutoSeq1.wpAny_loadPart' hl, AutoSeq1.wpAny_loadPart' hb
    exact ⟨_, rfl, h⟩
theorem rc_dict_tuple {A : Around} {s : Shared} {l b : Addr} {es : Array DictEntry} {n : Nat} {dd : Option Addr} {sl : Array (Option Value)} {items2 : Array Value}
    (hl : s.heap.get? l = some { cls := .type "dict", dict := dd, data := .dict es n, slots := sl }) (hb : s.heap.IsTuple b items2) (hu : A.units < cLine) : RcAt A s (.ref l) (.ref b) false := fun prog w E Q h => by
  obtain ⟨⟨c2, dd2, data2, sl2⟩, ho2, hc2, n2, hd2⟩ := id hb
  simp only at hc2 hd2
  subst hc2 hd2
  have hne : l ≠ b := fun z => by
    rw [z, ho2] at hl
    have q : Value.type "tuple" = Value.type "dict" := congrArg Obj.cls (Option.some.inj hl)
    exact absurd q (by simp)
  have sub1 : isSubtype (.type "tuple") (.type "dict") = pure false := PySem.F.sub_tuple_dict
  exact (rc_eq_decline_or (k := false) ⟨_, hl, rfl⟩ ⟨_, ho2, rfl⟩ (by decide) sub1 PySem.F.slot_dict_eq F.slot_tuple_eq_refl
    (fun _ hq => call_meets PySem.F.slot_dict_eq ⟨_, hl, rfl⟩ PySem.F.entry_dict_eq (PySem.F.args_dict_eq_2 _ _) (dict_declines_tuple l b es items2 n n2 dd dd2 sl sl2) ⟨hl, ho2, hq⟩)
    (fun _ hq => call_meets F.slot_tuple_eq_refl ⟨_, ho2, rfl⟩ F.entry_tuple_eq (F.args_tuple_eq_2 _ _) (tuple_declines_dict l b es items2 n n2 dd dd2 sl sl2) ⟨ho2, hl, hq⟩)
    (fun _ hq => wpAny_isSame_ref_other hne hl ho2 (by simp) hq) (.inr hu) h)
/-- x == (), x any data -/
def rEqU : R2 := fun x y H Q => ∃ (d : PyData) (p : Addr), DV H x d ∧ y = .ref p ∧ H p = some (.tup []) ∧ Q (.bl (isUnit d)) H
theorem op_eqU {X : Cx} (hu : X.A.units < cLine) : OpR X (compareOp .Eq) rEqU := by
  intro pins s σ H x y v u Q I rx ry h
  obtain ⟨d, p, hd, rfl, hp, q⟩ := h
  cases (show u = Value.ref p from ry)
  obtain ⟨its, rv, pt, _⟩ := I.tuple (SqT.of hp)
  cases rv
  have go : ∀ {k : Bool}, RcAt X.A s v (.ref p) k → EP X pins σ Q (.bool k) s → wpAny (model X.prog X.w) X.A (compareOp .Eq v (.ref p)) (EP X pins σ Q) X.xe s := fun {k} r z => r X.prog X.w X.xe _ z
  have out : ∀ {k : Bool}, isUnit d = k → EP X pins σ Q (.bool k) s := fun {k} e => ⟨.bl k, H, I, rfl, by rw [← e]; exact q⟩
  cases hd with
  | non =>
    cases (show v = Value.none from rx)
    exact go (.none_tuple pt hu) (out rfl)
  | bl b =>
    cases (show v = Value.bool b from rx)
    exact go (.bool_tuple b pt hu) (out rfl)
  | int i =>
    obtain ⟨t, rfl⟩ := (show ∃ t, v = Value.int i t from rx)
    exact go (.int_tuple i t pt hu) (out rfl)
  | @str z _ _ =>
    obtain ⟨t, rfl⟩ := (show ∃ t, v = Value.str z t from rx)
    exact go (.str_tuple z t pt hu) (out rfl)
  | @lst a xs ds e _ _ =>
    cases (show v = Value.ref a from rx)
    obtain ⟨its2, _, ⟨o, n, ho, hc, _, hdat⟩, _⟩ := I.list (SqL.of e)
    exact go (.list_tuple ⟨o, ho, hc, n, hdat⟩ pt hu) (out rfl)
  | @tup a xs ds e t _ =>
    cases (show v = Value.ref a from rx)
    obtain ⟨its2, rv2, pt2, _⟩ := I.tuple (SqT.of e)
    have r := RcAt.tuples (e := fun _ => true) pt2 pt hu (fun j _ h2 => absurd h2 (by simp))
    have el : its2.toArray.size = ds.length := by
      have l1 := rv2.length
      have l2 := t.length
      simp only [List.size_toArray]
      omega
    refine go r ?_
    have ek : ((List.range (min its2.toArray.size ([] : List Value).toArray.size)).all (fun _ => true) && its2.toArray.size == ([] : List Value).toArray.size) = isUnit (.tuple ds) := by
      rw [el]
      cases ds with
      | nil => rfl
      | cons _ _ => simp [isUnit]
    rw [ek]
    exact out rfl
  | @dct a e =>
    cases (show v = Value.ref a from rx)
    obtain ⟨_, _, vs, _, o, es, ep, ho, hx, hdat, _⟩ := (show ObjOk X.prog X.w H s.heap a (.dK []) from I.hok a _ e)
    obtain ⟨oc, od, odt, osl⟩ := o
    obtain ⟨hc, _⟩ := hx
    simp only at hc hdat
    subst hc hdat
    exact go (rc_dict_tuple ho pt hu) (out rfl)
end WR
namespace WR
open PySem PySem.Spec PyProof.Rows L2
/-! ## Calls of defs -/
abbrev FnP (K : PySem.W.Frag) (x : Str) (st : Stmt) (f : Addr) (fd : FuncData) : Prop := FunD K x x (defArgs st) (defBody st) (defScope st) [] [] f fd
/-- the name x holds a def that keeps sp -/
def Cal (P : Program) (w : World) (K : PySem.W.Frag) (mg : Str → Option Value) (base : Heap) (x : Str) (k : Nat) (ps : List Str) (sp : Sp) : Prop :=
  ∃ (f : Addr) (fd : FuncData), FnOk P w K mg base (L2.CX P w) k f fd ps sp ∧ mg x = some (.ref f) ∧ PySem.W.keepIn K (.ref f) = true ∧ Binds K fd ps []
section
variable {X : Cx} {x : Str} {k : Nat} {ps : List Str} {sp : Sp} {p pos : Pos} {e : Expr} {es : List Expr} {t : TA}
theorem pe_F (C : Cal X.prog X.w X.K X.mg X.base x k ps sp) (hr : Room k X.A) (ha : PA X (e :: es) t) (hg : Gl X x := by rfl)
    (hdb : (x == ("__debug__" : Str)) = false := by decide) (he : starEach (e :: es) X.env = (false, eval e X.env) :: starEach es X.env := by rfl) (hpl : (backTo pos (starEach es X.env)).any (·.1) = false := by rfl) :
    PE X (.Call (.Name x p) (e :: es) [] pos) (tCall sp [] E0 t) := by
  obtain ⟨f, fd, F, hm, hk, hb⟩ := C
  exact pe_call F hr hg hm hk hb .nil passL ha hdb he hpl
theorem pe_F0 (C : Cal X.prog X.w X.K X.mg X.base x k ps sp) (hr : Room k X.A) (hg : Gl X x := by rfl) (hdb : (x == ("__debug__" : Str)) = false := by decide) :
    PE X (.Call (.Name x p) [] [] pos) (tCall sp [] E0 tNil) := by
  obtain ⟨f, fd, F, hm, hk, hb⟩ := C
  exact pe_call0 F hr hg hm hk hb .nil passL hdb
/-- a call that may raise: W is what is wished of an exception here -/
theorem pe_X {W : WX} (C : Cal X.prog X.w X.K X.mg X.base x k ps sp) (hr : Room k X.A) (tk : Takes X W) (ha : PA X (e :: es) t) (hg : Gl X x := by rfl)
    (hdb : (x == ("__debug__" : Str)) = false := by decide) (he : starEach (e :: es) X.env = (false, eval e X.env) :: starEach es X.env := by rfl) (hpl : (backTo pos (starEach es X.env)).any (·.1) = false := by rfl) :
    PE X (.Call (.Name x p) (e :: es) [] pos) (tCallS sp (WE W) t) := by
  obtain ⟨f, fd, F, hm, hk, hb⟩ := C
  exact pe_callS F hr hg hm hk hb (fun σ => passAt tk σ) ha hdb he hpl
end
/-- the names of built-ins that the text leaves alone -/
def frees : List Str := ["isinstance", "int", "bool", "str", "tuple", "list", "dict", "len", "range", "enumerate", "zip", "max", "min", "sorted", "all", "any", "abs", "repr", "sum", "set"]
def Free (mg : Str → Option Value) : Prop := ∀ x ∈ frees, mg x = none
/-- a built-in class as a value -/
theorem pe_ty {X : Cx} {x : Str} {n : String} {pos : Pos} (fr : Free X.mg) (hx : x ∈ frees := by decide) (hv : bootBuiltins x = some (.type n) := by decide +kernel) (hg : Gl X x := by rfl) (hn : x ≠ "__name__" := by decide) (hdb : (x == ("__debug__" : Str)) = false := by decide) :
    PE X (.Name x pos) (tC (.ty n)) := pe_bltn (v := .ty n) (u := .type n) hg (fr x hx) hv rfl hn hdb
end WR
namespace WR
open PySem PySem.Spec PyProof.Rows L2
/-! ## An own exception class whose __init__ is a def: what the head must say of it -/
def oexB (K : PySem.W.Frag) (C : Addr) : Bool := (match K.lookup C with
  | some ⟨.type "type", _, .cls cd, sl⟩ => (match cd.mro, sl.toList with
    | .ref D :: bm, [_, _, _, _, some (.builtin n), _] => D == C && (n == "ValueError.__new__" && (cd.hasDict && (!cd.hasDel && PySem.HandSPX.refsVE bm)))
    | _, _ => false)
  | _ => false) && (decide (PySem.W.findIn K (.ref C) "__setattr__" = some (some (.builtin "object.__setattr__"))) && (decide (PySem.W.subIn K (.ref C) (.type "BaseException") = some true) &&
    (decide (PySem.W.typeIn K (.ref C) = some (.type "type")) && PySem.W.keepIn K (.ref C))))
theorem oexB_ok {K : PySem.W.Frag} {C : Addr} (h : oexB K C = true) : OexC K C := by
  unfold oexB at h
  simp only [Bool.and_eq_true, decide_eq_true_eq] at h
  obtain ⟨h1, h2, h3, h4, h5⟩ := h
  refine ⟨?_, h2, h3, h4, h5⟩
  split at h1
  · rename_i dd cd sl ho
    split at h1
    · rename_i D bm k0 k1 k2 k3 n k5 hm hs
      simp only [Bool.and_eq_true, beq_iff_eq, Bool.not_eq_true'] at h1
      obtain ⟨e1, e2, hd, hdel, hv⟩ := h1
      subst e1 e2
      obtain ⟨nm, bs, mro, ns, qn, hdi, sn, sub, ab, col, del⟩ := cd
      dsimp only at hm hd hdel
      subst hm hd hdel
      have hsl : sl = #[k0, k1, k2, k3, some (.builtin "ValueError.__new__"), k5] := by
        obtain ⟨l⟩ := sl
        simp only at hs
        rw [hs]
      subst hsl
      exact ⟨nm, qn, ns, bs, bm, sn, sub, ab, col, dd, k0, k1, k2, k3, k5, ho, hv⟩
    · cases h1
  · cases h1
/-- __init__ of a class with the one field f -/
def spInit (f : Str) (C : Addr) : Sp := fun vs H Q _ => ∃ a v, vs = [V.ref a, v] ∧ H a = some (exo a C none) ∧ ∀ dx, H dx = none → dx ≠ a → Q .non (upd (upd H dx (exd dx [(f, v)])) a (exo a C (some dx)))
/-- what is told of a class x with one field, by its __init__ -/
structure ExcF (P : Program) (w : World) (K : PySem.W.Frag) (mg : Str → Option Value) (base : Heap) (x f : Str) (C : Addr) : Prop where
  nm : mg x = some (.ref C)
  oex : OexC K C
  isi : ExcI K C
  nof : PySem.W.findIn K (.ref C) f = some none
  ini : ∃ (fI : Addr) (fd : FuncData), PySem.W.findIn K (.ref C) "__init__" = some (some (.ref fI)) ∧ PySem.W.typeIn K (.ref fI) = some (.type "function") ∧
    FnOk P w K mg base (L2.CX P w) 1 fI fd ["self", f] (spInit f C) ∧ Binds K fd ["self", f] []
theorem pmk_1 {X : Cx} {x f : Str} {C : Addr} {e : Expr} {te : TE} {p pos : Pos} (F : ExcF X.prog X.w X.K X.mg X.base x f C) (hr : Room 2 X.A) (he0 : PE X e te) (hg : Gl X x := by rfl)
    (hdb : (x == ("__debug__" : Str)) = false := by decide) (he : starEach (e :: []) X.env = (false, eval e X.env) :: starEach [] X.env := by rfl) (hpl : (backTo pos (starEach [] X.env)).any (·.1) = false := by rfl) :
    PMk X (.Call (.Name x p) [e] [] pos) (tMkO C (spInit f C) [] (tCons te tNil)) := by
  obtain ⟨fI, fd, iC, tI, FI, hb⟩ := F.ini
  exact pmk_oex (X := X) F.oex iC tI FI hr hb .nil passL hg F.nm (pa_cons he0 pa_nil (hs := he)) hdb he hpl
/-- what the making of x(v) asks behind v -/
theorem made1 {f : Str} {C : Addr} {v : V} {H1 : Hp} {Q : XK} (h : ∀ d, H1 d = none → Q (.ref C) (some d) (upd H1 d (.xd [(f, v)]))) :
    ([v] : List V).length ≤ 1000 ∧ ∀ a, H1 a = none → spInit f C (V.ref a :: ([v] ++ [])) (upd H1 a (exo a C none))
      (fun u H2 => u = .non ∧ ∃ (d : Addr) (fs : List (Str × V)), H2 a = some (exo a C (some d)) ∧ H2 d = some (exd d fs) ∧ H1 d = none ∧ Q (.ref C) (some d) (upd (del H2 a) d (.xd fs))) (fun _ _ _ => False) := by
  refine ⟨by show 1 ≤ 1000; decide, fun a na => ⟨a, v, rfl, upd_same, fun dx ndx hne => ⟨rfl, dx, [(f, v)], upd_same, ?_, ?_, ?_⟩⟩⟩
  · rw [upd_ne hne]; exact upd_same
  · rw [upd_ne hne] at ndx; exact ndx
  · rw [upd_ne hne] at ndx
    have e : upd (del (upd (upd (upd H1 a (exo a C none)) dx (exd dx [(f, v)])) a (exo a C (some dx))) a) dx (.xd [(f, v)]) = upd H1 dx (.xd [(f, v)]) := by
      funext b
      by_cases hb : b = dx
      · rw [hb, upd_same, upd_same]
      · rw [upd_ne hb, upd_ne hb]
        by_cases ha : b = a
        · rw [ha, del_same, na]
        · rw [del_ne ha, upd_ne ha, upd_ne hb, upd_ne ha]
    rw [e]
    exact h dx ndx
/-- __init__(self, f): self.f = f -/
theorem ok_init {P : Program} {w : World} {K : PySem.W.Frag} {mg : Str → Option Value} {base : Heap} {q f : Str} {C fI : Addr} {fd : FuncData} {prm : Arguments} {sc : Scope} {dvs : List V} {p1 p2 p3 p4 : Pos}
    (F : FunD K "__init__" q prm [.Assign [.Attribute (.Name "self" p1) f p2] (.Name f p3) p4] sc dvs [] fI fd) (S : FnScope ["self", f] ["self", f] sc) (O : OexC K C) (nof : PySem.W.findIn K (.ref C) f = some none)
    (v1 : sc.names.lookup ("self" : Str) = some NameKind.local) (v2 : sc.names.lookup f = some NameKind.local) (d2 : (f == ("__debug__" : Str)) = false) (d3 : (f == ("__classdict__" : Str)) = false) :
    FnOk P w K mg base (L2.CX P w) 1 fI fd ["self", f] (spInit f C) := by
  refine F.ok S (fun vs H Q E h => ?_) (fun cdv A outer s H vs Q E hr h => ⟨_, PSs.nox (pss_one (ps_ost (pe_var (i := 0) rfl (Or.inl v1)) (pe_var (i := 1) rfl (Or.inl v2) d2 d3))), ?_⟩)
  · obtain ⟨a, v, rfl, _⟩ := h; rfl
  · obtain ⟨a, v, rfl, ha, k⟩ := h
    exact ⟨v, rfl, .ref a, rfl, a, C, rfl, O, nof, .inl ⟨ha, fun dx n1 n2 => k dx n1 n2⟩⟩
end WR
namespace WR
open PySem PySem.Spec PyProof.Rows L2
/-! ## enumerate(tuple) -/
theorem meets_enumT {v : Value} {o : Obj} {G : Heap → Prop} (B : Begins v o G) :
    Meets (Builtin.«enumerate.__new__» ⟨[.type "enumerate", v], []⟩) (fun _ R s => G s.heap ∧
      R (.ok (.ret (.ref (s.heap.push o).objs.size))) { s with heap := (s.heap.push o).push { cls := .type "enumerate", data := .fields #[.none, .bool false, .ref s.heap.objs.size, rawInt 0, .none, .none] } }) :=
  .of_wp fun prog w A R s h => by
    obtain ⟨hp, g, d, tk, os⟩ := s
    obtain ⟨hG, h⟩ := h
    have hsub := sub_enumerate
    have first : ∀ {A2 : Around} {E : Value → Shared → Prop} {Q : Value → Shared → Prop}, Q (.ref hp.objs.size) ⟨hp.push o, g, d, tk, os⟩ → wpAny (model prog w) A2 (pyIter v) Q E ⟨hp, g, d, tk, os⟩ :=
      fun q => B.iter prog w _ _ ⟨hp, g, d, tk, os⟩ _ hG q
    wp_walk
    refine wpAny_stack_any fun st => wpAny_pure ?_
    split
    · rename_i c _ _ _ _ _
      cases (c == Value.type "enumerate")
      · wp_walk using first
        exact ⟨_, rfl, h⟩
      · wp_walk using first
        exact ⟨_, rfl, h⟩
    · wp_walk using first
      exact ⟨_, rfl, h⟩
theorem call_enumT {prog : Program} {w : World} {A : Around} {E : Value → Shared → Prop} {s : Shared} {v : Value} {o : Obj} {G : Heap → Prop} {Q : Value → Shared → Prop} (B : Begins v o G) (hG : G s.heap)
    (h : ∀ h', IsEnum h' (s.heap.objs.size + 1) s.heap.objs.size 0 .none → h'.get? s.heap.objs.size = some o → (∀ b u, s.heap.get? b = some u → h'.get? b = some u) → Q (.ref (s.heap.objs.size + 1)) { s with heap := h' }) :
    wpAny (model prog w) A (call (.type "enumerate") [v]) Q E s := by
  refine callType_new F.called_enumerate (by decide) (F.typeCall_enumerate_1 _) (F.newCall_enumerate_1 _) (fun obj => F.args_object_init_2 obj _) F.entry_enumerate_new (meets_enumT B) ⟨hG, ?_⟩
  have sz : (s.heap.push o).objs.size = s.heap.objs.size + 1 := Heap.size_push ..
  show _ ∧ _
  rw [sz]
  have atE : IsEnum ((s.heap.push o).push { cls := .type "enumerate", data := .fields #[.none, .bool false, .ref s.heap.objs.size, rawInt 0, .none, .none] }) (s.heap.objs.size + 1) s.heap.objs.size 0 .none := by
    rw [← sz]
    exact Heap.get?_push_size _ rfl
  exact ⟨⟨_, atE, rfl⟩, h _ atE (Heap.get?_push_of_some _ (Heap.get?_push_size _ B.free)) fun b u q => Heap.get?_push_of_some _ (Heap.get?_push_of_some _ q)⟩
/-- the tuple at a as it stands, each item in a new pair -/
def IteT (K : PySem.W.Frag) (a : Addr) : It :=
  ⟨fun i H => ∃ (xs : List V) (x : V), SqT K H a xs ∧ xs[i]? = some x, fun i H v H' => ∃ T x, v = .ref T ∧ H T = none ∧ H' = upd H T (.tup [.int (i : Nat), x]) ∧ ∀ xs, SqT K H a xs → xs[i]? = some x, fun i H => ∃ xs : List V, SqT K H a xs ∧ xs.length = i⟩
theorem turn_enumT {P : Program} {w : World} {K : PySem.W.Frag} {elts : List Expr} {kk : Nat} {tpos : Pos} (a e it : Addr) :
    Turn P w K (.Tuple elts kk tpos) (IteT K a) [e, it] e (fun i h => (∃ old, IsEnum h e it ((i : Nat) : Int) old) ∧ h.IsTupleIter it a i ∧ e ≠ it ∧ a ≠ it ∧ a ≠ e) where
  mem := by simp
  obj := fun i h st b hb => by
    obtain ⟨⟨old, he⟩, ⟨o, ho, hc, hd⟩, _⟩ := st
    rcases (show b = e ∨ b = it by simpa using hb) with z | z
    · rw [z]; exact ⟨_, he, fun v q => nomatch q⟩
    · rw [z]; exact ⟨o, ho, fun v q => by rw [hd] at q; cases q⟩
  keep := fun i h h' st k => by
    obtain ⟨⟨old, he⟩, hi, n1, n2, n3⟩ := st
    exact ⟨⟨old, k e (by simp) _ he⟩, hi.at fun o q => k it (by simp) o q, n1, n2, n3⟩
  item := by
    intro X hP hw hK hc i pins s σ H E I hf st hg
    subst hP hw hK
    obtain ⟨⟨old, he⟩, hit, n1, n2, n3⟩ := st
    obtain ⟨xs, x, hq, hx⟩ := hg
    obtain ⟨its, rv, p, hz⟩ := I.tuple hq
    obtain ⟨u, hu, ru⟩ := rv.get hx
    have hlt : i < its.toArray.size := by
      have q := (List.getElem?_eq_some_iff.mp hu).1
      simpa using q
    have hel : e < s.heap.objs.size := Heap.lt_size he
    have hil : it < s.heap.objs.size := by obtain ⟨_, q, _⟩ := hit; exact Heap.lt_size q
    have DR := Draws.tuple (prog := X.prog) (w := X.w) (A := X.A.in1) (I.ok.hd hc) it a n2 its.toArray
    refine wpAny_pyNext_enum_itemD DR he ⟨hit, p⟩ hlt n1 (by simp [n1, Ne.symm n3]) fun y h' tk hy ho hst hT hsz hk => ?_
    have ey : y = u := by
      have q1 : its.toArray[i]? = some y := hy
      have q2 : its.toArray[i]? = some u := by simpa using hu
      rw [q2] at q1
      exact (Option.some.inj q1).symm
    subst ey
    refine ⟨_, rfl, wpAny_letOwnedTupleGo_enum (s := { s with heap := h', toks := tk + 1 }) ho fun h'' he' sb => ?_⟩
    have hT2 : h''.get? s.heap.objs.size = some { cls := .type "tuple", data := .seq #[.int i tk, y] } := (sb.2 _ (Nat.ne_of_gt hel)).trans hT
    have new : ObjOk X.prog X.w (upd H s.heap.objs.size (.tup [.int (i : Nat), x])) h'' s.heap.objs.size (.tup [.int (i : Nat), x]) :=
      ⟨by show 2 ≤ sizeLine; decide, [.int i tk, y], .cons ⟨_, rfl⟩ (.cons ru .nil), ⟨_, hT2, rfl, _, rfl⟩⟩
    have J : Inv X pins σ (upd H s.heap.objs.size (.tup [.int (i : Nat), x])) { s with heap := h'', toks := tk + 1 } :=
      I.turnedNew (ch := [e, it]) (fun b ob hb q => by
        have be : b ≠ e := fun z => hb (by simp [z])
        have bi : b ≠ it := fun z => hb (by simp [z])
        exact (sb.2 b be).trans (hk b ob be bi q)) hf (Nat.le_refl _) new
    refine ⟨.ref s.heap.objs.size, _, J, rfl, ⟨_, x, rfl, I.hok.fresh (Nat.le_refl _), rfl, fun ys hy2 => ?_⟩, ⟨⟨y, ?_⟩, hst.1.at fun o q => (sb.2 it (Ne.symm n1)).trans q, n1, n2, n3⟩, fun b hb => ?_⟩
    · rw [I.tuple_inj hy2 hq]; exact hx
    · have e1 : ((i + 1 : Nat) : Int) = (i : Int) + 1 := by omega
      rw [e1]; exact he'
    · have hb' : b < s.heap.objs.size := by
        rcases (show b = e ∨ b = it by simpa using hb) with z | z
        · rw [z]; exact hel
        · rw [z]; exact hil
      rw [upd_ne (Nat.ne_of_lt hb')]
      exact (hf b hb).1
  done := by
    intro X hP hw hK hc i pins s σ H E I hf st hg
    subst hP hw hK
    obtain ⟨⟨old, he⟩, hit, n1, n2, n3⟩ := st
    obtain ⟨xs, hq, hx⟩ := hg
    obtain ⟨its, rv, p, hz⟩ := I.tuple hq
    have DR := Draws.tuple (prog := X.prog) (w := X.w) (A := X.A.in1) (I.ok.hd hc) it a n2 its.toArray
    have ei : i = its.toArray.size := by
      have q := rv.length
      rw [hx] at q
      simpa using q
    obtain ⟨f0, f1, f2, f3, f4, f5⟩ := hf it (by simp)
    exact wpAny_pyNext_enum_endD DR he (by rw [← ei]; exact ⟨hit, p⟩) fun h' eb => ⟨rfl, I.turned (t' := s.toks) (fun b o hb q => eb b o hb q) f0 f1 f3 f4 f5⟩
  self := fun A i s Q E st h => by
    obtain ⟨⟨_, he⟩, _⟩ := st
    exact wpAny_pyIter_enum he h
def iEnumT (K : PySem.W.Frag) (ta : TA) : TI := fun σ H R => ta σ H fun vs H1 => ∃ a xs, vs = [.ref a] ∧ SqT K H1 a xs ∧ R (IteT K a) H1
theorem pi_enumT {X : Cx} {e : Expr} {ta : TA} {p pos tpos : Pos} {elts : List Expr} {kk : Nat} (hg : Gl X "enumerate") (hm : X.mg "enumerate" = none) (ha : PA X [e] ta) (hs : starEach [e] X.env = [(false, eval e X.env)] := by rfl) :
    PI X (.Tuple elts kk tpos) (.Call (.Name "enumerate" p) [e] [] pos) (iEnumT X.K ta) := by
  constructor
  intro pins s σ H R I h
  refine Call_ (ld_blt I hg hm boot_enumerate (PyProof.Rows.callWith_type1 (thn (ha.run pos pins s σ H _ I h) fun us s1 z => ?_) hs rfl))
  obtain ⟨vs, H1, J, r1, a, xs, ex, hq, q⟩ := z
  subst ex
  cases r1 with
  | cons r rr =>
    cases rr
    cases r
    obtain ⟨its, rv, p', hz⟩ := J.tuple hq
    refine call_enumT (begins_tuple a its.toArray) p' fun h' he hget hk => wpAny_pyIter_enum he ?_
    have J2 : Inv X pins σ H1 { s1 with heap := h' } := J.kept (t' := s1.toks) hk
    have la : a < s1.heap.objs.size := p'.lt
    refine ⟨s1.heap.objs.size + 1, [s1.heap.objs.size + 1, s1.heap.objs.size], _, _, H1, rfl, J2, turn_enumT a (s1.heap.objs.size + 1) s1.heap.objs.size,
      ⟨⟨.none, he⟩, ⟨_, hget, rfl, rfl⟩, Nat.succ_ne_self _, Nat.ne_of_lt la, Nat.ne_of_lt (Nat.lt_succ_of_lt la)⟩, fun b hb => ?_, q⟩
    have hle : s1.heap.objs.size ≤ b := by
      rcases (show b = s1.heap.objs.size + 1 ∨ b = s1.heap.objs.size by simpa using hb) with z | z
      · rw [z]; exact Nat.le_succ _
      · rw [z]; exact Nat.le_refl _
    exact J.fpOk hle (J.hok.fresh hle)
theorem walk_enumT {K : PySem.W.Frag} {a : Addr} {xs : List V} : Walk (IteT K a) xs.length (fun H => SqT K H a xs) (YPair (fun i => some (.int (i : Nat))) (fun i => xs[i]?)) := by
  refine ⟨fun i H hi q => ⟨xs, xs[i], q, by simp [hi]⟩, fun H q => ⟨xs, q, rfl⟩, fun i H v H' hi q y => ?_⟩
  obtain ⟨T, x, h1, h2, h3, h4⟩ := y
  exact ⟨T, .int (i : Nat), x, h1, h2, h3, rfl, h4 xs q⟩
end WR
namespace WR
open PySem PySem.Spec PyProof.Rows L2
open GxR (TabB TabG Tabbed GenS)
/-! ## all(.. for sign in text), the element may ask the module's names -/
def EltG (X : Cx) (scope : Scope) (x : Str) (elt : Expr) (pb : Nat → Bool) : Prop :=
  ∀ (ce : Env) (A2 : Around) (E2 : Value → Shared → Prop) (c : Nat) (t : Tok) (r : Shared) (m : Str → Option Value), ce.scope = scope → ce.globals = mainGlobals → (∀ b o, X.base.get? b = some o → r.heap.get? b = some o) →
    r.heap.Ns ce.locals m → m x = some (.str ⟨#[c]⟩ t) → wpAny (model X.prog X.w) A2 (eval elt ce) (fun y r3 => y = .bool (pb c) ∧ Keeps r r3) E2 r
/-- x in G, G a text of the module -/
theorem elt_inG {X : Cx} {scope : Scope} {x g z : Str} {tz : Tok} {p1 p2 p3 : Pos} (hk : scope.kind = .function) (hl : scope.names.lookup x = some .local) (hg : scope.names.lookup g = some .globalImplicit) (hmod : X.base.Ns mainGlobals X.mg) (hz : X.mg g = some (.str z tz))
    (hd : (x == ("__debug__" : Str)) = false := by decide) (hd2 : (g == ("__debug__" : Str)) = false := by decide) : EltG X scope x (.Compare (.Name x p1) [.In] [.Name g p2] p3) (fun c => decide (c ∈ z.cps.toList)) := by
  intro ce A2 E2 c t r m hs hgl hb hn hm
  refine wpAny_Compare1 ?_
  refine wpAny_Name (wpAny_loadName_local (by rw [hs]; exact hk) (show ce.scope.names.lookup x = some .local by rw [hs]; exact hl) hn hm ?_) hd
  refine Calls.Name_function_global (by rw [hs]; exact hk) (show ce.scope.names.lookup g = some .globalImplicit by rw [hs]; exact hg) (Calls.loadGlobal_global (mg := X.mg) (by rw [hgl]; exact hmod.keeps hb) hz ?_) hd2
  refine PyProof.Rows.in_str ⟨?_, GxR.keeps_refl _⟩
  rw [PySem.StrLaws.found_one z c]
section
variable {X : Cx} {pins : List (Addr × Obj)} {σ : L2.St} {H : Hp} {s : Shared}
/-- the generator made, ready to be walked -/
theorem gen_made {c T : Addr} {elt iter : Expr} {x : Str} {px gpos : Pos} {scope : Scope} {pb : Nat → Bool} {te : TE} {k : Nat} {Qg : Value → Shared → Prop} {R : Str → Hp → Prop}
    (hr : Room k X.A) (TB : TabB X.base X.mg c T) (hcode : X.env.code = .ref c) (S : GenS X.env scope x) (hi : PE X iter te) (hel : EltG X scope x elt pb)
    (hs : ∀ v, genFold iter X.env v = pure v) (I : Inv X pins σ H s) (h : te σ H fun v H1 => ∃ a : Str, v = .str a ∧ TabG H1 T ∧ R a H1)
    (hQ : ∀ a H1 g s5, R a H1 → GxR.Ready X pins σ H1 T a pb g s5 → Qg (.ref g) s5) :
    wpAny (model X.prog X.w) X.A (eval (.GeneratorExp elt [⟨.Name x px, iter, [], 0⟩] scope gpos) X.env) Qg X.xe s := by
  refine wpAny_GeneratorExp_walksQ hr.hd S.co (closure_ok S.free) S.cell S.dot S.loc S.kind (Nat.lt_of_le_of_lt (by omega) hr.dp) ?_ hs
  refine thn (hi.run pins s σ H _ I h) fun xv s1 z => ?_
  obtain ⟨v, H1, J, rv, a, rfl, ⟨ps, hT, tri⟩, hR⟩ := z
  obtain ⟨t, rfl⟩ := _root_.id (show ∃ t, xv = Value.str a t from rv)
  refine wpAny_pyIter_str fun io St W st0 => ?_
  have atT : s1.heap.get? T = some { cls := .none, data := .fields ps } := J.hok T _ hT
  have ltT : T < s1.heap.objs.size := Heap.lt_size atT
  have atT2 : (s1.heap.push io).get? T = some { cls := .none, data := .fields ps } := Heap.get?_push_of_some _ atT
  have hd2 : PySem.W.CodeHd (s1.heap.push io) c T := TB.code.keeps fun b u e => Heap.get?_push_of_some _ (J.bk b u e)
  have lim : (s1.heap.push io).NoLimit := J.nolimit.push io
  have baseT : ∀ b u, X.base.get? b = some u → b ≠ T := fun b u e q => by
    have n := (J.bs b u e).2
    rw [q, hT] at n
    cases n
  have bnd := TB.bm
  obtain ⟨bm, ob, y1, y2, y3, y4, y5, y6, y7, y8⟩ := bnd
  have statT : cStatics ≠ T := fun q => by
    obtain ⟨_, hns, _⟩ := J.nolimit
    obtain ⟨o2, es, ep, ho, hdat, _⟩ := hns
    rw [q, atT] at ho
    cases ho
    cases hdat
  have statL : cStatics < s1.heap.objs.size := by
    obtain ⟨_, hns, _⟩ := J.nolimit
    exact hns.lt
  -- behind the code object, wherever it comes from
  have rest : ∀ (cv : Value) (h3 : Heap) (tk : Nat) (ps2 more : Array Value), Heap.ExtBut T (s1.heap.push io) h3 → (s1.heap.push io).objs.size ≤ h3.objs.size → h3.get? T = some { cls := .none, data := .fields ps2 } → ps2 = ps ++ more → TriplesOk ps2.toList →
      wpAny (model X.prog X.w) X.A (builtinsFor X.env.globals X.env.builtins) (fun bi s4 =>
        ∃ Ia fp wr n0 Pf St0 pz F, Value.ref s1.heap.objs.size = .ref Ia ∧ (∀ A2 : Around, A2.handled = none → Walks X.prog X.w A2 Ia fp wr n0 Pf St0) ∧ St0 0 s4.heap ∧ (∀ b ∈ fp, b < s4.heap.objs.size) ∧ s4.heap.NoLimit ∧ cStatics ∉ wr ∧
          (∀ href : Heap, (∀ b o, s4.heap.get? b = some o → href.get? b = some o) → QuietGen X.prog X.w (genEnv scope (cloFrom X.env.cells scope.names []) s4.heap.objs.size cv bi X.env) x [] elt (List.range s4.heap.objs.size) wr Pf pz F href) ∧
          (∀ g h5 tk5 gs, gs.bare = true → s4.heap.objs.size < g → h5.objs.size = g + 1 → (∀ b o, s4.heap.get? b = some o → h5.get? b = some o) →
            WalksS X.prog X.w X.A.in4 g (g :: s4.heap.objs.size :: List.range s4.heap.objs.size) (s4.heap.objs.size :: wr) (GenOnlyQ s4.gens.size) (passing pz n0 0).length
              (fun j y => ∃ i, (passing pz n0 0)[j]? = some i ∧ F i y) (GenAt X.prog X.w X.A.in4 g s4.gens.size s4.heap.objs.size (List.range s4.heap.objs.size) wr pz n0 F) →
            GenAt X.prog X.w X.A.in4 g s4.gens.size s4.heap.objs.size (List.range s4.heap.objs.size) wr pz n0 F 0 { s4 with gens := s4.gens.push gs, toks := tk5, heap := h5 } →
            Qg (.ref g) { s4 with gens := s4.gens.push gs, toks := tk5, heap := h5 })) X.xe { s1 with heap := h3, toks := tk } := by
    intro cv h3 tk ps2 more hx hsz hT3 hmore tri3
    have kept : ∀ b u, b ≠ T → s1.heap.get? b = some u → h3.get? b = some u := fun b u hb e => hx b u hb (Heap.get?_push_of_some _ e)
    have szp : (s1.heap.push io).objs.size = s1.heap.objs.size + 1 := Heap.size_push ..
    have lt3 : s1.heap.objs.size < h3.objs.size := by rw [szp] at hsz; exact hsz
    have one : ∀ b, b ∈ [s1.heap.objs.size] → b = s1.heap.objs.size := fun b hb => List.mem_singleton.mp hb
    refine wpAny_builtinsFor (m := X.mg) (by rw [J.ok.glob]; exact ((J.mod.glob.keeps J.bk).push io).extBut hx TB.gP) y1 y2 (kept _ _ y4 (J.bk _ _ y5)) y6 y7 y8 ?_
    refine ⟨s1.heap.objs.size, [s1.heap.objs.size], [s1.heap.objs.size], a.cps.size, SignAt a, St, fun _ => true, fun i y => ∃ cc, a.cps[i]? = some cc ∧ y = .bool (pb cc), rfl, W, ?st, ?fp, lim.extBut hx statT, ?wr, ?quiet, ?go⟩
    case st =>
      refine (W X.A hr.hd).frame _ _ _ st0 fun b hb u e => hx b u (fun q => ?_) e
      rw [one b hb] at q
      exact absurd q.symm (Nat.ne_of_lt ltT)
    case fp =>
      intro b hb
      rw [one b hb]
      exact lt3
    case wr =>
      intro hb
      exact absurd (one _ hb) (Nat.ne_of_lt statL)
    case quiet =>
      intro href hh
      constructor
      · intro A2 E2 i v r m hA hv hn hm hk
        simp only [List.forIn_nil]
        exact wpAny_pure ⟨rfl, GxR.keeps_refl _⟩
      · intro A2 E2 i v r m hA hv hp hn hm hk
        obtain ⟨cc, u, hcc, rfl⟩ := hv
        refine wpAny_mono (hel _ A2 E2 cc u r m rfl J.ok.glob (fun b o e => ?_) hn hm) (fun y r3 q => ⟨⟨cc, hcc, q.1⟩, q.2⟩) fun _ _ e => e
        have e1 := J.bk b o e
        have e3 := kept b o (baseT b o e) e1
        refine hk b (List.mem_range.mpr (Heap.lt_size e3)) (fun hb => ?_) o (hh b o e3)
        exact absurd (one b hb) (Nat.ne_of_lt (Heap.lt_size e1))
    case go =>
      intro g h5 tk5 gs hbare hag hsz5 hk5 W5 atg
      simp only [GxR.passing_true, List.length_range] at W5
      refine hQ a H1 g _ hR ⟨_, _, _, _, _, W5.in4_1, atg, ?_, fun s6 hm => ?_⟩
      · intro j y sj Qj Ej hy hQj
        obtain ⟨i, hij, cc, hcc, rfl⟩ := hy
        have ej : j = i := by
          obtain ⟨hj, q⟩ := List.getElem?_eq_some_iff.mp hij
          rw [List.getElem_range] at q
          exact q
        subst ej
        have hq : Qj (GxR.trF pb a.cps.toList j) sj := hQj
        rw [GxR.trF_some (show a.cps.toList[j]? = some cc by rw [Array.getElem?_toList]; exact hcc)] at hq
        exact wpAny_truthy_bool hq
      · have nowr : ∀ b u, s1.heap.get? b = some u → b ∉ h3.objs.size :: [s1.heap.objs.size] := fun b u e hb => by
          have l1 := Heap.lt_size e
          have l2 : b = h3.objs.size ∨ b = s1.heap.objs.size := by simpa using hb
          rcases l2 with q | q
          · rw [q] at l1
            exact absurd (Nat.lt_trans l1 lt3) (Nat.lt_irrefl _)
          · rw [q] at l1
            exact absurd l1 (Nat.lt_irrefl _)
        have gT : s6.heap.get? T = some { cls := .none, data := .fields (ps ++ more) } := by
          rw [← hmore]
          exact hm.heap T _ (nowr T _ atT) (hk5 T _ hT3)
        have J6 := GxR.inv_tab (h' := s6.heap) (g' := s6.gens) (d' := s6.drawn) (t' := s6.toks) J hT (fun b u hb e => hm.heap b u (nowr b u e) (hk5 b u (kept b u hb e))) gT (AllBare.movedS (J.bare.push hbare) hm)
        rw [GxR.sh_eta s1 s6 hm.os] at J6
        exact ⟨upd H1 T (.tbl (ps ++ more)), ⟨⟨ps ++ more, upd_same, by rw [← hmore]; exact tri3⟩, fun b hb => upd_ne hb⟩, J6⟩
  refine ⟨lim, ?_⟩
  cases hf : codeAmong gpos ps.toList with
  | some cv =>
    refine wpAny_genexprCode_hit hcode (hd2.code atT2 tri) hf ?_
    exact rest cv (s1.heap.push io) s1.toks ps #[] (Heap.ExtBut.refl _ _) (Nat.le_refl _) atT2 (by simp) tri
  | none =>
    refine wpAny_genexprCodeX hcode (hd2.code atT2 tri) (hd2.tab atT2) hf fun c2 h4 tk hx hge hlt co _ tab _ => ?_
    obtain ⟨o1, vs, f1, tf, fl, tg, inF, tx, tt, op, _, _, _, _, _, _, _, _, _, tri4, _⟩ := co
    exact rest _ h4 tk _ _ hx (Nat.le_trans hge (Nat.le_of_lt hlt)) tab.2 rfl tri4
theorem pe_allG {c T : Addr} {elt iter : Expr} {x : Str} {px p pos gpos : Pos} {scope : Scope} {pb : Nat → Bool} {te : TE} {k : Nat}
    (hr : Room k X.A) (hg : Gl X "all") (hm : X.mg "all" = none) (TB : TabB X.base X.mg c T) (hcode : X.env.code = .ref c) (S : GenS X.env scope x) (hi : PE X iter te) (hel : EltG X scope x elt pb)
    (hs : ∀ v, genFold iter X.env v = pure v)
    (he : starEach [.GeneratorExp elt [⟨.Name x px, iter, [], 0⟩] scope gpos] X.env = (false, eval (.GeneratorExp elt [⟨.Name x px, iter, [], 0⟩] scope gpos) X.env) :: starEach [] X.env := by rfl) :
    PE X (.Call (.Name "all" p) [.GeneratorExp elt [⟨.Name x px, iter, [], 0⟩] scope gpos] [] pos) (GxR.tAllS T pb te) := by
  constructor
  intro pins s σ H Q I h
  refine wpAny_Call_Name_kw (ld_blt I hg hm (by decide +kernel : bootBuiltins "all" = some (.builtin "all")) ?_)
  refine PyProof.Rows.callWith_builtin1 ?_ he (by rfl)
  rw [he]
  show wpAny _ _ (spliced ((false, eval (.GeneratorExp elt [⟨.Name x px, iter, [], 0⟩] scope gpos) X.env) :: backTo pos (starEach [] X.env))) _ _ s
  refine Calls.spliced_cons (gen_made (R := fun a H1 => ∀ H2, Tabbed T H1 H2 → Q (.bl (a.cps.toList.all pb)) H2) hr TB hcode S hi hel hs I h fun a H1 g s5 hR hG => Calls.spliced_nil ?_)
  obtain ⟨fp, wr, G, F, St, W, st0, truth, back⟩ := hG
  refine call_all_walkS (W.self 0 _ _ _ st0 ⟨g, fp, wr, G, _, F, St, _, rfl, W, st0, truth, fun s6 hmv => ?_⟩)
  obtain ⟨H2, hT, J⟩ := back s6 hmv
  exact ⟨.bl _, H2, J, rfl, by rw [GxR.all_signs a pb]; exact hR H2 hT⟩
end
end WR
namespace WR
open PySem PySem.Spec PyProof.Rows L2
theorem genS_of {env : Env} {scope : Scope} {x : Str} (h1 : scope.kind = .function) (h2 : scope.isCoroutine = false) (h3 : scope.names.lookup (".0" : Str) = some NameKind.local) (h4 : scope.names.lookup x = some .local) (h5 : (scope.names.all fun y => decide (y.2 ≠ .cell) && decide (y.2 ≠ .free)) = true) : GxR.GenS env scope x := by
  have q : ∀ y ∈ scope.names, y.2 ≠ .cell ∧ y.2 ≠ .free := fun y hy => by
    have z := List.all_eq_true.mp h5 y hy
    simpa using z
  exact ⟨h1, h2, fun y hy => (q y hy).1, h3, h4, fun y hy e => absurd e (q y hy).2⟩
/-- what a frame's table is for: the one table of the law's text -/
abbrev TG (T : Addr) (H : Hp) : Prop := GxR.TabG H T
theorem dv_str {H : Hp} {v : V} {x : Str} (h : DV H v (.str x)) : v = .str x := by cases h; rfl
theorem dv_int {H : Hp} {v : V} {i : Int} (h : DV H v (.int i)) : v = .int i := by cases h; rfl
theorem dv_tup {H : Hp} {v : V} {l : List PyData} (h : DV H v (.tuple l)) : ∃ a xs, v = .ref a ∧ H a = some (.tup xs) ∧ DVs H xs l ∧ l.length ≤ 1000 := by
  cases h with
  | tup e t hl => exact ⟨_, _, rfl, e, t, hl⟩
theorem pe_gS {X : Cx} {x z : Str} {t : Tok} {pos : Pos} (hm : X.mg x = some (.str z t)) (hg : Gl X x := by rfl) (hd : (x == ("__debug__" : Str)) = false := by decide) : PE X (.Name x pos) (tC (.str z)) := pe_glob (v := .str z) hg hm ⟨t, rfl⟩ hd
theorem pe_gR {X : Cx} {x : Str} {C : Addr} {pos : Pos} (hm : X.mg x = some (.ref C)) (hg : Gl X x := by rfl) (hd : (x == ("__debug__" : Str)) = false := by decide) : PE X (.Name x pos) (tC (.ref C)) := pe_glob (v := .ref C) hg hm rfl hd
theorem yes_go {σ : L2.St} {A B : Hp → Prop} {H : Hp} (h : A H) : tYes σ H (fun (b : Bool) (H3 : Hp) => if b = true then A H3 else B H3) := by
  show if true = true then A H else B H
  exact iteT h
end WR
namespace WR
open PySem PySem.Spec PyProof.Rows L2
/-! ## dicts as sets of keys -/
theorem putK_le {κ : Type} [DecidableEq κ] (kvs : List (κ × V)) (k : κ) (v : V) : (putK kvs k v).length ≤ kvs.length + 1 := by
  unfold putK
  split <;> simp
/-- kvs has just the keys of S -/
def KeysAre {κ : Type} [DecidableEq κ] (kvs : List (κ × V)) (S : κ → Prop) : Prop := ∀ k, (valV kvs k).isSome = true ↔ S k
theorem keys_nil {κ : Type} [DecidableEq κ] : KeysAre ([] : List (κ × V)) (fun _ => False) := fun k => by simp [valV]
theorem keys_put {κ : Type} [DecidableEq κ] {kvs : List (κ × V)} {S : κ → Prop} (h : KeysAre kvs S) (k : κ) (v : V) : KeysAre (putK kvs k v) (fun j => j = k ∨ S j) := fun j => by
  rw [valV_put]
  by_cases e : j = k
  · simp [e]
  · rw [if_neg e, h j]
    simp [e]
theorem keys_bool {κ : Type} [DecidableEq κ] {kvs : List (κ × V)} {S : κ → Prop} (h : KeysAre kvs S) (k : κ) [Decidable (S k)] : (valV kvs k).isSome = decide (S k) := by
  have := h k
  cases e : (valV kvs k).isSome <;> simp_all
theorem keys_congr {κ : Type} [DecidableEq κ] {kvs : List (κ × V)} {S S' : κ → Prop} (h : KeysAre kvs S) (e : ∀ k, S k ↔ S' k) : KeysAre kvs S' := fun k => (h k).trans (e k)
/-- the keys of a list of texts -/
def KS (l : List Str) : Key → Prop := fun k => ∃ x ∈ l, k = Sum.inr x
/-- .. of pairs of texts, either way about -/
def KP (l : List (Str × Str)) : List Key → Prop := fun k => ∃ a b, ((a, b) ∈ l ∨ (b, a) ∈ l) ∧ k = [Sum.inr a, Sum.inr b]
theorem ks_in {l : List Str} {x : Str} : KS l (Sum.inr x) ↔ x ∈ l := by
  constructor
  · rintro ⟨y, hy, e⟩; cases e; exact hy
  · intro h; exact ⟨x, h, rfl⟩
theorem ks_snoc {l : List Str} {x : Str} (k : Key) : (k = Sum.inr x ∨ KS l k) ↔ KS (l ++ [x]) k := by
  constructor
  · rintro (rfl | ⟨y, hy, rfl⟩)
    · exact ⟨x, by simp, rfl⟩
    · exact ⟨y, by simp [hy], rfl⟩
  · rintro ⟨y, hy, rfl⟩
    rcases List.mem_append.mp hy with h | h
    · exact .inr ⟨y, h, rfl⟩
    · simp at h; subst h; exact .inl rfl
theorem kp_in {l : List (Str × Str)} {a b : Str} : KP l [Sum.inr a, Sum.inr b] ↔ ((a, b) ∈ l ∨ (b, a) ∈ l) := by
  constructor
  · rintro ⟨x, y, h, e⟩
    cases e
    exact h
  · intro h; exact ⟨a, b, h, rfl⟩
theorem kp_snoc {l : List (Str × Str)} {a b : Str} (k : List Key) : (k = [Sum.inr b, Sum.inr a] ∨ (k = [Sum.inr a, Sum.inr b] ∨ KP l k)) ↔ KP (l ++ [(a, b)]) k := by
  constructor
  · rintro (rfl | rfl | ⟨x, y, h, rfl⟩)
    · exact ⟨b, a, .inr (by simp), rfl⟩
    · exact ⟨a, b, .inl (by simp), rfl⟩
    · refine ⟨x, y, ?_, rfl⟩
      rcases h with h | h
      · exact .inl (by simp [h])
      · exact .inr (by simp [h])
  · rintro ⟨x, y, h, rfl⟩
    rcases h with h | h
    · rcases List.mem_append.mp h with h | h
      · exact .inr (.inr ⟨x, y, .inl h, rfl⟩)
      · simp at h; obtain ⟨rfl, rfl⟩ := h; exact .inr (.inl rfl)
    · rcases List.mem_append.mp h with h | h
      · exact .inr (.inr ⟨x, y, .inr h, rfl⟩)
      · simp at h; obtain ⟨rfl, rfl⟩ := h; exact .inl rfl
/-- the data at a turn -/
theorem dvs_at {H : Hp} {vs : List V} {ds : List PyData} {i : Nat} {v : V} (h : DVs H vs ds) (e : vs[i]? = some v) : ∃ d, ds[i]? = some d ∧ DV H v d ∧ ds.drop i = d :: ds.drop (i + 1) ∧ ds.take (i + 1) = ds.take i ++ [d] := by
  obtain ⟨d, q, hd⟩ := h.get e
  obtain ⟨lt, e2⟩ := List.getElem?_eq_some_iff.mp q
  refine ⟨d, q, hd, ?_, ?_⟩
  · rw [List.drop_eq_getElem_cons lt, e2]
  · rw [List.take_succ, q]; rfl
end WR
/-! ## What the defs reckon, over data -/
namespace WR
open PySem
def letters : Str := "abcdefghijklmnopqrstuvwxyz"
def signs : Str := "abcdefghijklmnopqrstuvwxyz0123456789"
def isNameS (x : Str) : Bool := (decide (1 ≤ x.length) && decide (x.length ≤ 8)) && ((match x.cps[0]? with | some c => decide (c ∈ letters.cps.toList) | none => false) && x.cps.toList.all (fun c => decide (c ∈ signs.cps.toList)))
def isName : PyData → Bool
  | .str x => isNameS x
  | _ => false
def isWhole (d : PyData) : Bool := isD "int" d && !isD "bool" d
def isPair : PyData → Bool
  | .tuple [_, _] => true
  | _ => false
def isTextPair : PyData → Bool
  | .tuple [.str _, .str _] => true
  | _ => false
def fromZero : PyData → Bool
  | .int i => decide (0 ≤ i)
  | _ => false
def isEntry : PyData → Bool
  | .tuple [n, w] => isName n && (isWhole w && fromZero w)
  | _ => false
theorem isWhole_int {d : PyData} (h : isWhole d = true) : ∃ i, d = .int i := by
  cases d with
  | int i => exact ⟨i, rfl⟩
  | none => revert h; simp [isWhole, isD, isT, tyD]
  | bool b => revert h; simp [isWhole, isD, isT, tyD]
  | str x => revert h; simp [isWhole, isD, isT, tyD]
  | list x => revert h; simp [isWhole, isD, isT, tyD]
  | tuple x => revert h; simp [isWhole, isD, isT, tyD]
  | dict x => revert h; simp [isWhole, isD, isT, tyD]
theorem textPair_eq (a b : PyData) : isTextPair (.tuple [a, b]) = (isD "str" a && isD "str" b) := by cases a <;> cases b <;> rfl
theorem pair_cases (d : PyData) : (∃ a b, d = .tuple [a, b]) ∨ (isPair d = false ∧ isTextPair d = false ∧ isEntry d = false) := by
  cases d with
  | tuple l =>
    match l with
    | [] => exact .inr ⟨rfl, rfl, rfl⟩
    | [_] => exact .inr ⟨rfl, by simp [isTextPair], by simp [isEntry]⟩
    | [a, b] => exact .inl ⟨a, b, rfl⟩
    | _ :: _ :: _ :: _ => exact .inr ⟨rfl, by simp [isTextPair], by simp [isEntry]⟩
  | _ => exact .inr ⟨rfl, rfl, rfl⟩
/-- the name of an entry -/
def entryName : PyData → Str
  | .tuple [.str x, _] => x
  | _ => ""
theorem entry_shape {d : PyData} (h : isEntry d = true) : ∃ x i, d = .tuple [.str x, .int i] ∧ isNameS x = true ∧ 0 ≤ i := by
  rcases pair_cases d with ⟨a, b, rfl⟩ | ⟨_, _, z⟩
  · simp only [isEntry, Bool.and_eq_true] at h
    obtain ⟨h1, h2, h3⟩ := h
    obtain ⟨i, rfl⟩ := isWhole_int h2
    cases a with
    | str x => exact ⟨x, i, rfl, h1, by simpa [fromZero] using h3⟩
    | _ => cases h1
  · rw [z] at h; cases h
theorem textPair_shape {d : PyData} (h : isTextPair d = true) : ∃ a b, d = .tuple [.str a, .str b] := by
  rcases pair_cases d with ⟨a, b, rfl⟩ | ⟨_, z, _⟩
  · cases a with
    | str x =>
      cases b with
      | str y => exact ⟨x, y, rfl⟩
      | _ => cases h
    | _ => cases h
  · rw [z] at h; cases h
def homeOk (seen : List Str) (d : PyData) : Bool := isEntry d && !decide (entryName d ∈ seen)
def badHome (k : Nat) (seen : List Str) : List PyData → PyData
  | [] => .none
  | d :: r => if homeOk seen d = true then badHome (k + 1) (seen ++ [entryName d]) r else .tuple [.str "home", .int k]
def roadOk (names : List Str) (pairs : List (Str × Str)) : PyData → Bool
  | .tuple [.str a, .str b] => (decide (a ∈ names) && decide (b ∈ names)) && (decide (a ≠ b) && (!decide ((a, b) ∈ pairs) && !decide ((b, a) ∈ pairs)))
  | _ => false
theorem roadOk_text {names : List Str} {pairs : List (Str × Str)} {d : PyData} (h : isTextPair d = false) : roadOk names pairs d = false := by
  cases e : roadOk names pairs d with
  | false => rfl
  | true =>
    unfold roadOk at e
    split at e
    · cases h
    · cases e
def roadEnds : PyData → Str × Str
  | .tuple [.str a, .str b] => (a, b)
  | _ => ("", "")
def badRoad (k : Nat) (names : List Str) (pairs : List (Str × Str)) : List PyData → PyData
  | [] => .none
  | d :: r => if roadOk names pairs d = true then badRoad (k + 1) names (pairs ++ [roadEnds d]) r else .tuple [.str "road", .int k]
def orElse (a b : PyData) : PyData := match a with
  | .none => b
  | _ => a
def townWrong : PyData → PyData
  | .tuple [.tuple (h :: hs), .tuple rs] => orElse (badHome 0 [] (h :: hs)) (badRoad 0 ((h :: hs).map entryName) [] rs)
  | _ => .tuple [.str "town"]
def handOk (seen : List Str) (d : PyData) : Bool := isUnit d || homeOk seen d
def badHand (k : Nat) (seen : List Str) : List PyData → PyData
  | [] => .none
  | d :: r => if handOk seen d = true then badHand (k + 1) (if isUnit d = true then seen else seen ++ [entryName d]) r else .tuple [.str "hand", .int k]
/-- how many homes a town has -/
def homesOf : PyData → Nat
  | .tuple [.tuple hs, _] => hs.length
  | _ => 0
def standingWrong (town : PyData) : PyData → PyData
  | .tuple l => if l.length = homesOf town then badHand 0 [] l else .tuple [.str "standing"]
  | _ => .tuple [.str "standing"]
theorem badHome_none : ∀ (l : List PyData) (k : Nat) (seen : List Str), badHome k seen l = .none → ∀ d ∈ l, isEntry d = true
  | [], _, _, _, _, hd => by cases hd
  | d :: r, k, seen, h, e, he => by
    unfold badHome at h
    by_cases c : homeOk seen d = true
    · rw [if_pos c] at h
      rcases List.mem_cons.mp he with rfl | he
      · exact (Bool.and_eq_true_iff.mp c).1
      · exact badHome_none r _ _ h e he
    · rw [if_neg c] at h
      cases h
theorem bad_shape : ∀ (l : List PyData) (k : Nat) (seen : List Str), badHome k seen l = .none ∨ ∃ i : Nat, badHome k seen l = .tuple [.str "home", .int i]
  | [], _, _ => .inl rfl
  | d :: r, k, seen => by
    unfold badHome
    by_cases c : homeOk seen d = true
    · rw [if_pos c]; exact bad_shape r _ _
    · rw [if_neg c]; exact .inr ⟨k, rfl⟩
theorem badR_shape : ∀ (l : List PyData) (k : Nat) (names : List Str) (pairs : List (Str × Str)), badRoad k names pairs l = .none ∨ ∃ i : Nat, badRoad k names pairs l = .tuple [.str "road", .int i]
  | [], _, _, _ => .inl rfl
  | d :: r, k, names, pairs => by
    unfold badRoad
    by_cases c : roadOk names pairs d = true
    · rw [if_pos c]; exact badR_shape r _ _ _
    · rw [if_neg c]; exact .inr ⟨k, rfl⟩
theorem badH_shape : ∀ (l : List PyData) (k : Nat) (seen : List Str), badHand k seen l = .none ∨ ∃ i : Nat, badHand k seen l = .tuple [.str "hand", .int i]
  | [], _, _ => .inl rfl
  | d :: r, k, seen => by
    unfold badHand
    by_cases c : handOk seen d = true
    · rw [if_pos c]; exact badH_shape r _ _
    · rw [if_neg c]; exact .inr ⟨k, rfl⟩
theorem orElse_none {a b : PyData} : orElse a b = .none ↔ a = .none ∧ b = .none := by
  cases a <;> simp [orElse]
theorem town_shape {t : PyData} (h : townWrong t = .none) : ∃ d l rs, t = .tuple [.tuple (d :: l), .tuple rs] ∧ badHome 0 [] (d :: l) = .none ∧ badRoad 0 ((d :: l).map entryName) [] rs = .none := by
  unfold townWrong at h
  split at h
  · exact ⟨_, _, _, rfl, orElse_none.mp h⟩
  · cases h
theorem town_not {t : PyData} (h : ∀ d l rs, t ≠ .tuple [.tuple (d :: l), .tuple rs]) : townWrong t = .tuple [.str "town"] := by
  unfold townWrong
  split
  · exact absurd rfl (h _ _ _)
  · rfl
theorem isUnit_not_entry {d : PyData} (h : isUnit d = true) : isEntry d = false := by
  unfold isUnit at h
  split at h
  · rfl
  · cases h
theorem isD_tuple {d : PyData} (h : isD "tuple" d = true) : ∃ l, d = .tuple l := by
  cases d with
  | tuple l => exact ⟨l, rfl⟩
  | _ => simp [isD, isT, tyD] at h
end WR
namespace WR
open PySem PySem.Spec PyProof.Rows L2
def topS (i : Nat) : Stmt := PySem.Challenge.pw_worthrooms_k01_towns_and_standings_looke.main.body.getD i (.Pass ⟨0, 0, 0, 0⟩)
section
variable {P : Program} {w : World} {K : PySem.W.Frag} {mg : Str → Option Value} {base : Heap} {f : Addr} {fd : FuncData}
/-! ### is_whole -/
abbrev s_is_whole : Stmt := topS 7
abbrev N_is_whole : List Str := ["thing"]
abbrev P_is_whole : List Str := ["thing"]
theorem sc_is_whole : FnScope N_is_whole P_is_whole (defScope s_is_whole) := ⟨rfl, rfl, rfl, by decide +kernel, rfl, by decide +kernel, by decide +kernel⟩

def sp_is_whole : Sp := fun vs H Q _ => ∃ v d, vs = [v] ∧ DV H v d ∧ Q (.bl (isWhole d)) H
theorem ok_is_whole (F : FnP K "is_whole" s_is_whole f fd) (fr : Free mg) : FnOk P w K mg base (L2.CX P w) 1 f fd P_is_whole sp_is_whole := by
  refine F.ok sc_is_whole (fun vs H Q E h => ?_) (fun cdv A outer s H vs Q E hr h => ⟨_, PSs.nox (pss_one (ps_ret (pe_and (pe_callB call_isD (by rfl) (fr "isinstance" (by decide)) (by decide +kernel) (pa_cons (pv 0) (pa_cons (pe_ty (n := "int") fr) pa_nil))) (pe_one (pe_not (pe_callB call_isD (by rfl) (fr "isinstance" (by decide)) (by decide +kernel) (pa_cons (pv 0) (pa_cons (pe_ty (n := "bool") fr) pa_nil)))))))), ?_⟩)
  · obtain ⟨v, d, rfl, _⟩ := h; rfl
  · obtain ⟨v, d, rfl, hd, q⟩ := h
    refine ⟨v, rfl, v, "int", d, rfl, hd, .inl rfl, _, rfl, ?_⟩
    cases e : isD "int" d with
    | false =>
      refine iteF ?_
      have z : isWhole d = false := by unfold isWhole; rw [e]; rfl
      rw [z] at q; exact q
    | true =>
      refine iteT ⟨v, rfl, v, "bool", d, rfl, hd, .inr (.inl rfl), _, rfl, ?_⟩
      have z : isWhole d = !isD "bool" d := by unfold isWhole; rw [e]; rfl
      rw [z] at q; exact q
/-! ### is_pair -/
abbrev s_is_pair : Stmt := topS 9
abbrev N_is_pair : List Str := ["thing"]
abbrev P_is_pair : List Str := ["thing"]
theorem sc_is_pair : FnScope N_is_pair P_is_pair (defScope s_is_pair) := ⟨rfl, rfl, rfl, by decide +kernel, rfl, by decide +kernel, by decide +kernel⟩

def sp_is_pair : Sp := fun vs H Q _ => ∃ v d, vs = [v] ∧ DV H v d ∧ Q (.bl (isPair d)) H
theorem ok_is_pair (F : FnP K "is_pair" s_is_pair f fd) (fr : Free mg) : FnOk P w K mg base (L2.CX P w) 1 f fd P_is_pair sp_is_pair := by
  refine F.ok sc_is_pair (fun vs H Q E h => ?_) (fun cdv A outer s H vs Q E hr h => ⟨_, PSs.nox (pss_one (ps_ret (pe_and (pe_callB call_isD (by rfl) (fr "isinstance" (by decide)) (by decide +kernel) (pa_cons (pv 0) (pa_cons (pe_ty (n := "tuple") fr) pa_nil))) (pe_one (pe_cmpR op_eq (pe_callB call_lenD' (by rfl) (fr "len" (by decide)) (by decide +kernel) (pa_cons (pv 0) pa_nil)) pe_int (nomark _)))))), ?_⟩)
  · obtain ⟨v, d, rfl, _⟩ := h; rfl
  · obtain ⟨v, d, rfl, hd, q⟩ := h
    refine ⟨v, rfl, v, "tuple", d, rfl, hd, .inr (.inr (.inr rfl)), _, rfl, ?_⟩
    cases d with
    | tuple l =>
      refine iteT ⟨v, rfl, v, .tuple l, l.length, rfl, hd, rfl, rfl, ?_⟩
      have z : isPair (.tuple l) = decide (V.int (l.length : Int) = V.int 2) := by
        match l with
        | [] => rfl
        | [_] => rfl
        | [_, _] => rfl
        | _ :: _ :: _ :: r => simp only [isPair, List.length_cons]; exact (decide_eq_false (fun z => by have := V.int.inj z; omega)).symm
      rw [z] at q; exact q
    | _ => exact iteF q
/-! ### is_name -/
abbrev s_is_name : Stmt := topS 8
abbrev N_is_name : List Str := ["thing", "sign"]
abbrev P_is_name : List Str := ["thing"]
theorem sc_is_name : FnScope N_is_name P_is_name (defScope s_is_name) := ⟨rfl, rfl, rfl, by decide +kernel, rfl, by decide +kernel, by decide +kernel⟩

def sp_is_name (T : Addr) : Sp := fun vs H Q _ => ∃ v d, vs = [v] ∧ DV H v d ∧ TG T H ∧ ∀ H', StayT H H' → Q (.bl (isName d)) H'
theorem ok_is_name {c T : Addr} {tz tl : Tok} (F : FnP K "is_name" s_is_name f fd) (fr : Free mg) (hc : fd.code = .ref c) (TB : GxR.TabB base mg c T) (hmod : base.Ns mainGlobals mg) (g_SIGNS : mg "SIGNS" = some (.str signs tz)) (g_LETTERS : mg "LETTERS" = some (.str letters tl)) :
    FnOk P w K mg base (L2.CX P w) 1 f fd P_is_name (sp_is_name T) := by
  obtain ⟨oc, od, dV, kV, doc, pm, an, cdv, ct, osl, rfl, lk, hcd, _, _⟩ := F.ex
  have ec : cdv = .ref c := hc
  subst ec
  refine fn_of lk hcd sc_is_name (fun vs H Q E h => ?_) (fun A outer s H vs Q E hr h => ⟨_, PSs.nox (pss_cons (ps_if (PW.pt (pw_or (pt_not (pt_val (pe_callB call_isD (by rfl) (fr "isinstance" (by decide)) (by decide +kernel) (pa_cons (pv 0) (pa_cons (pe_ty (n := "str") fr) pa_nil))))) (pw_or1 (pt_not (pt_chain op_le op_le pe_int (pe_callB call_lenD' (by rfl) (fr "len" (by decide)) (by decide +kernel) (pa_cons (pv 0) pa_nil)) pe_int))))) (pss_one (ps_ret pe_bl)) pss_nil)
    (pss_one (ps_ret (pe_and (pe_cmpR op_in_sign (pe_ix ix_D (pv 0) pe_int (fun _ _ => rfl)) (pe_gS g_LETTERS) rfl) (pe_one (pe_allG hr rfl (fr "all" (by decide)) TB rfl (genS_of rfl rfl rfl rfl (by decide +kernel)) (pv 0) (elt_inG rfl rfl rfl hmod g_SIGNS) (fun _ => rfl))))))), ?_⟩)
  · obtain ⟨v, d, rfl, _⟩ := h; rfl
  · obtain ⟨v, d, rfl, hd, tg, q⟩ := h
    have no : isName d = false → Q (.bl false) H := fun z => by
      have q2 := q H (StayT.refl H)
      rw [z] at q2; exact q2
    refine ⟨v, rfl, v, "str", d, rfl, hd, .inr (.inr (.inl rfl)), _, rfl, ?_⟩
    by_cases ds : ∃ x, d = .str x
    · obtain ⟨x, rfl⟩ := ds
      refine ⟨v, rfl, v, _, x.length, rfl, hd, rfl, _, _, rfl, rfl, _, rfl, ?_⟩
      refine ite2 (fun h1 => ?_) (fun h1 => ?_)
      · refine ⟨_, _, rfl, rfl, _, rfl, ?_⟩
        have l1 : 1 ≤ x.length := by have := of_decide_eq_true h1; omega
        refine ite2 (fun h2 => no ?_) (fun h2 => ?_)
        · have l2 : ¬ x.length ≤ 8 := by
            simp only [Bool.not_eq_true', decide_eq_false_iff_not] at h2; omega
          simp [isName, isNameS, l2]
        · have l2 : x.length ≤ 8 := by
            simp only [Bool.not_eq_true', decide_eq_false_iff_not, Decidable.not_not] at h2; omega
          obtain ⟨c0, hc0⟩ : ∃ c0, x.cps[0]? = some c0 := ⟨x.cps[0], Array.getElem?_eq_getElem l1⟩
          refine ⟨v, rfl, .str x, .str ⟨#[c0]⟩, 0, hd, rfl, by simp [itemD, hc0], fun v2 hv2 => ?_⟩
          cases dv_str hv2
          refine ⟨c0, letters, rfl, rfl, _, rfl, ?_⟩
          have key : isName (.str x) = (decide (c0 ∈ letters.cps.toList) && x.cps.toList.all (fun c => decide (c ∈ signs.cps.toList))) := by
            simp [isName, isNameS, l1, l2, hc0]
          cases e : decide (c0 ∈ letters.cps.toList) with
          | false => exact iteF (no (by rw [key, e]; rfl))
          | true =>
            refine iteT ⟨v, rfl, x, dv_str hd, tg, fun H2 tb => ?_⟩
            have q2 := q H2 (StayT.tabbed tb tg)
            rw [key, e, Bool.true_and] at q2
            exact q2
      · refine ⟨_, rfl, iteT (no ?_)⟩
        have l1 : ¬ 1 ≤ x.length := fun z => h1 (decide_eq_true (by omega))
        simp [isName, isNameS, l1]
    · have z : isD "str" d = false := by
        cases d with
        | str x => exact absurd ⟨x, rfl⟩ ds
        | _ => rfl
      rw [z]
      refine iteT (no ?_)
      cases d with
      | str x => exact absurd ⟨x, rfl⟩ ds
      | _ => rfl
/-! ### is_text_pair -/
abbrev s_is_text_pair : Stmt := topS 10
abbrev N_is_text_pair : List Str := ["thing"]
abbrev P_is_text_pair : List Str := ["thing"]
theorem sc_is_text_pair : FnScope N_is_text_pair P_is_text_pair (defScope s_is_text_pair) := ⟨rfl, rfl, rfl, by decide +kernel, rfl, by decide +kernel, by decide +kernel⟩

def sp_is_text_pair : Sp := fun vs H Q _ => ∃ v d, vs = [v] ∧ DV H v d ∧ Q (.bl (isTextPair d)) H
theorem ok_is_text_pair (F : FnP K "is_text_pair" s_is_text_pair f fd) (fr : Free mg) (c_is_pair : Cal P w K mg base "is_pair" 1 P_is_pair sp_is_pair) : FnOk P w K mg base (L2.CX P w) 2 f fd P_is_text_pair sp_is_text_pair := by
  refine F.ok sc_is_text_pair (fun vs H Q E h => ?_) (fun cdv A outer s H vs Q E hr h => ⟨_, PSs.nox (pss_one (ps_ret (pe_and (pe_F c_is_pair (hr.mono (by omega)) (pa_cons (pv 0) pa_nil)) (pe_and (pe_callB call_isD (by rfl) (fr "isinstance" (by decide)) (by decide +kernel) (pa_cons (pe_ix ix_D (pv 0) pe_int (fun _ _ => rfl)) (pa_cons (pe_ty (n := "str") fr) pa_nil))) (pe_one (pe_callB call_isD (by rfl) (fr "isinstance" (by decide)) (by decide +kernel) (pa_cons (pe_ix ix_D (pv 0) pe_int (fun _ _ => rfl)) (pa_cons (pe_ty (n := "str") fr) pa_nil)))))))), ?_⟩)
  · obtain ⟨v, d, rfl, _⟩ := h; rfl
  · obtain ⟨v, d, rfl, hd, q⟩ := h
    refine ⟨v, rfl, v, d, rfl, hd, _, rfl, ?_⟩
    rcases pair_cases d with ⟨a, b, rfl⟩ | ⟨z, z2, _⟩
    · refine iteT ⟨v, rfl, .tuple [a, b], a, 0, hd, rfl, rfl, fun va ha => ⟨va, "str", a, rfl, ha, .inr (.inr (.inl rfl)), _, rfl, ?_⟩⟩
      rw [textPair_eq] at q
      cases ea : isD "str" a with
      | false =>
        rw [ea] at q
        exact iteF q
      | true =>
        rw [ea] at q
        exact iteT ⟨v, rfl, .tuple [a, b], b, 1, hd, rfl, rfl, fun vb hb => ⟨vb, "str", b, rfl, hb, .inr (.inr (.inl rfl)), q⟩⟩
    · rw [z]
      rw [z2] at q
      exact iteF q
/-! ### is_entry -/
abbrev s_is_entry : Stmt := topS 11
abbrev N_is_entry : List Str := ["thing"]
abbrev P_is_entry : List Str := ["thing"]
theorem sc_is_entry : FnScope N_is_entry P_is_entry (defScope s_is_entry) := ⟨rfl, rfl, rfl, by decide +kernel, rfl, by decide +kernel, by decide +kernel⟩

def sp_is_entry (T : Addr) : Sp := fun vs H Q _ => ∃ v d, vs = [v] ∧ DV H v d ∧ TG T H ∧ ∀ H', StayT H H' → Q (.bl (isEntry d)) H'
theorem ok_is_entry {T : Addr} (F : FnP K "is_entry" s_is_entry f fd) (fr : Free mg) (c_is_pair : Cal P w K mg base "is_pair" 1 P_is_pair sp_is_pair) (c_is_name : Cal P w K mg base "is_name" 1 P_is_name (sp_is_name T)) (c_is_whole : Cal P w K mg base "is_whole" 1 P_is_whole sp_is_whole) :
    FnOk P w K mg base (L2.CX P w) 2 f fd P_is_entry (sp_is_entry T) := by
  refine F.ok sc_is_entry (fun vs H Q E h => ?_) (fun cdv A outer s H vs Q E hr h => ⟨_, PSs.nox (pss_one (ps_ret (pe_and (pe_F c_is_pair (hr.mono (by omega)) (pa_cons (pv 0) pa_nil)) (pe_and (pe_F c_is_name (hr.mono (by omega)) (pa_cons (pe_ix ix_D (pv 0) pe_int (fun _ _ => rfl)) pa_nil)) (pe_and (pe_F c_is_whole (hr.mono (by omega)) (pa_cons (pe_ix ix_D (pv 0) pe_int (fun _ _ => rfl)) pa_nil)) (pe_one (pe_cmpR op_ge (pe_ix ix_D (pv 0) pe_int (fun _ _ => rfl)) pe_int (nomark _)))))))), ?_⟩)
  · obtain ⟨v, d, rfl, _⟩ := h; rfl
  · obtain ⟨v, d, rfl, hd, tg, q⟩ := h
    refine ⟨v, rfl, v, d, rfl, hd, _, rfl, ?_⟩
    rcases pair_cases d with ⟨a, b, rfl⟩ | ⟨z, _, z2⟩
    · refine iteT ⟨v, rfl, .tuple [a, b], a, 0, hd, rfl, rfl, fun va ha => ⟨va, a, rfl, ha, tg, fun H1 s1 => ⟨_, rfl, ?_⟩⟩⟩
      have hd1 := hd.stay s1
      cases ea : isName a with
      | false =>
        refine iteF ?_
        have q2 := q H1 s1
        have z : isEntry (.tuple [a, b]) = false := by simp [isEntry, ea]
        rw [z] at q2; exact q2
      | true =>
        refine iteT ⟨v, rfl, .tuple [a, b], b, 1, hd1, rfl, rfl, fun vb hb => ⟨vb, b, rfl, hb, _, rfl, ?_⟩⟩
        have q2 := q H1 s1
        cases eb : isWhole b with
        | false =>
          refine iteF ?_
          have z : isEntry (.tuple [a, b]) = false := by simp [isEntry, eb]
          rw [z] at q2; exact q2
        | true =>
          obtain ⟨i, rfl⟩ := isWhole_int eb
          refine iteT ⟨v, rfl, .tuple [a, .int i], .int i, 1, hd1, rfl, rfl, fun vc hc => ?_⟩
          cases dv_int hc
          refine ⟨i, 0, rfl, rfl, ?_⟩
          have z : isEntry (.tuple [a, .int i]) = decide (0 ≤ i) := by simp [isEntry, ea, eb, fromZero]
          rw [z] at q2; exact q2
    · have q2 := q H (StayT.refl H)
      rw [z]
      rw [z2] at q2
      exact iteF q2
end
end WR
namespace WR
open PySem PySem.Spec PyProof.Rows L2
section
variable {P : Program} {w : World} {K : PySem.W.Frag} {mg : Str → Option Value} {base : Heap} {f : Addr} {fd : FuncData} {T : Addr}
/-! ### bad_home -/
abbrev s_bad_home : Stmt := topS 12
abbrev N_bad_home : List Str := ["homes", "names", "k", "home"]
abbrev P_bad_home : List Str := ["homes"]
theorem sc_bad_home : FnScope N_bad_home P_bad_home (defScope s_bad_home) := ⟨rfl, rfl, rfl, by decide +kernel, rfl, by decide +kernel, by decide +kernel⟩

def sp_bad_home (T : Addr) : Sp := fun vs H Q _ => ∃ v l, vs = [v] ∧ DV H v (.tuple l) ∧ TG T H ∧ ∀ H' r, StayT H H' → DV H' r (badHome 0 [] l) → Q r H'
theorem ok_bad_home (F : FnP K "bad_home" s_bad_home f fd) (fr : Free mg) (c_is_entry : Cal P w K mg base "is_entry" 2 P_is_entry (sp_is_entry T)) :
    FnOk P w K mg base (L2.CX P w) 3 f fd P_bad_home (sp_bad_home T) := by
  refine F.ok sc_bad_home (fun vs H Q E h => ?_) (fun cdv A outer s H vs Q E hr h => ⟨_, PSs.nox (pss_cons (ps_set (i := 1) sc_bad_home.nd rfl (Or.inl rfl) pe_dnewK)
    (pss_cons (ps_for PassesOwn.never rfl (pi_enumT rfl (fr "enumerate" (by decide)) (pa_cons (pv 0) pa_nil)) (pg_tup rfl (pgs_cons (pg_name (i := 2) sc_bad_home.nd rfl (Or.inl rfl)) (pgs_cons (pg_name (i := 3) sc_bad_home.nd rfl (Or.inl rfl)) pgs_nil))) (pss_cons (ps_if (PW.pt (pw_or (pt_not (pt_val (pe_F c_is_entry (hr.mono (by omega)) (pa_cons (pv 3) pa_nil)))) (pw_or1 (pt_cmp (pc_din (hu_of hr) (pe_ix ix_D (pv 3) pe_int (fun _ _ => rfl)) (pv 1)))))) (pss_one (ps_ret (pe_tup (pa_cons pe_str (pa_cons (pv 2) pa_nil))))) pss_nil)
    (pss_one (ps_dput (hu_of hr) (pv 1) (pe_ix ix_D (pv 3) pe_int (fun _ _ => rfl)) pe_bl rfl))))
    (pss_one (ps_ret pe_non)))), ?_⟩)
  · obtain ⟨v, d, rfl, _⟩ := h; rfl
  · obtain ⟨v, l, rfl, hd, tg, q⟩ := h
    obtain ⟨a, xs, rfl, ha, hxs, hl⟩ := dv_tup hd
    refine fun dn ndn => ⟨_, rfl, a, xs, rfl, SqT.of (by rw [upd_ne (ne_of_none ha ndn)]; exact ha), ?_⟩
    refine for_it (walk_enumT (xs := xs)) (fun i σ H1 => ∃ (seen : List Str) (kvs : List (Key × V)) (v2 v3 : Option V), σ = [some (.ref a), some (.ref dn), v2, v3] ∧ StayT H H1 ∧ H1 dn = some (.dK kvs) ∧ KeysAre kvs (KS seen) ∧ kvs.length ≤ i ∧
        badHome 0 [] l = badHome i seen (l.drop i)) ?h0 ?hG ?hs ?hd
    case h0 => exact ⟨[], [], none, none, rfl, (StayT.refl H).new ndn, upd_same, keys_congr keys_nil fun k => by simp [KS], Nat.le_refl _, rfl⟩
    case hG =>
      rintro i σ H1 hi ⟨seen, kvs, v2, v3, rfl, s1, hdn, hk, hle, e⟩
      exact SqT.of (s1.same _ _ ha fun _ z => nomatch z)
    case hs =>
      rintro i x σ H1 H2 hi ⟨seen, kvs, v2, v3, rfl, s1, hdn, hk, hle, e⟩ ⟨p, i0, x, rfl, hp, rfl, e0, hx⟩
      cases e0
      obtain ⟨d, _, hdx, hdrop, _⟩ := dvs_at hxs hx
      have s2 := s1.new (o := .tup [.int (i : Nat), x]) hp
      have tg2 := s2.tabG tg
      have hdx2 := hdx.stay s2
      refine ⟨p, _, rfl, SqT.of upd_same, rfl, _, _, rfl, _, _, rfl, rfl, ?_⟩
      refine ⟨x, rfl, x, d, rfl, hdx2, tg2, fun H3 s3 => ⟨_, rfl, ?_⟩⟩
      have s13 := s2.trans s3
      have hdx3 := hdx.stay s13
      have hdn3 : H3 dn = some (.dK kvs) := s3.same _ _ (by rw [upd_ne (ne_of_none hdn hp)]; exact hdn) fun _ z => nomatch z
      rw [hdrop] at e
      have bad : homeOk seen d = false → badHome 0 [] l = .tuple [.str "home", .int i] := fun z => by
        rw [e]; unfold badHome; rw [z]; rfl
      have ret : homeOk seen d = false → ∀ D : Ends, D.rt = Q → tRet (tTup (tCons (tC (.str "home")) (tCons (tVar 2) tNil))) D [some (.ref a), some (.ref dn), some (.int (i : Nat)), some x] H3 := fun z D eD => by
        unfold tRet
        rw [eD]
        refine ⟨_, rfl, by show 2 ≤ sizeLine; decide, fun r hr2 => q _ _ (s13.new hr2) ?_⟩
        rw [bad z]
        exact .tup upd_same (.two (.str (by decide +kernel) (by decide +kernel)) (.int _)) (by show 2 ≤ 1000; decide)
      cases en : isEntry d with
      | false =>
        refine iteT ?_
        exact ret (by simp [homeOk, en]) _ rfl
      | true =>
        refine iteF ?_
        obtain ⟨nm, w0, rfl, _, _⟩ := entry_shape en
        refine ⟨x, rfl, .tuple [.str nm, .int w0], .str nm, 0, hdx3, rfl, rfl, fun vn hn => ?_⟩
        cases dv_str hn
        refine ⟨.ref dn, rfl, dn, _, rfl, DGet.k (k := Sum.inr nm) hdn3, _, rfl, ?_⟩
        by_cases ins : nm ∈ seen
        · have z : (valV kvs (Sum.inr nm)).isSome = true := (hk _).mpr (ks_in.mpr ins)
          rw [z]
          exact iteT (ret (by simp [homeOk, en, entryName, ins]) _ rfl)
        · have z : (valV kvs (Sum.inr nm)).isSome = false := by
            cases zz : (valV kvs (Sum.inr nm)).isSome with
            | false => rfl
            | true => exact absurd (ks_in.mp ((hk _).mp zz)) ins
          rw [z]
          refine iteF ⟨.ref dn, rfl, x, rfl, .tuple [.str nm, .int w0], .str nm, 0, hdx3, rfl, rfl, fun vn2 hn2 => ?_⟩
          cases dv_str hn2
          have hlt : kvs.length < sizeLine := by
            have h1 : xs.length = l.length := hxs.length
            have h2 : kvs.length < 1000 := by omega
            exact Nat.lt_trans h2 (by decide)
          refine ⟨dn, _, rfl, DPut.k (k := Sum.inr nm) hdn3 hlt, ?_⟩
          refine ⟨seen ++ [nm], _, _, _, rfl, s13.upd ndn, upd_same, keys_congr (keys_put hk (Sum.inr nm) (.bl true)) fun k => ks_snoc k, ?_, ?_⟩
          · have := putK_le kvs (Sum.inr nm) (.bl true); omega
          · rw [e]; conv => lhs; unfold badHome
            rw [if_pos (by simp [homeOk, en, entryName, ins])]
            rfl
    case hd =>
      rintro σ H1 ⟨seen, kvs, v2, v3, rfl, s1, hdn, hk, hle, e⟩
      refine q _ _ s1 ?_
      rw [e, hxs.length, List.drop_length]
      exact .non
end
end WR
namespace WR
open PySem PySem.Spec PyProof.Rows L2
/-! ## name = {k: v for ..} on one line -/
theorem ps_setDc {X : Cx} {i : Nat} {y : Str} {py : Pos} {kx vx tg iter : Expr} {ifs : List Expr} {scope : Scope} {own : List (Str × Nat)} {pos spos : Pos} {wi : TI} {g : L2.TG} {tt : TT} {tk tv : TE} (hc : X.calm = true) (hN : X.N.Nodup) (hy : X.N[i]? = some y)
    (hyl : X.env.scope.names.lookup y = some .local) (hsw : swapsWith (.DictComp kx vx [⟨tg, iter, ifs, 0⟩] scope pos) (some (.Name y py)) spos.line X.env = pure true) (hi : PI X tg iter wi) (ok : BlkOk X.N X.env.scope scope own)
    (hg : ∀ (r : Shared) (G : Hp) (C : Addr) (cl : List (Str × Addr)) (fp : List Addr), PG (X.blk r G scope (compEnvC scope cl C X.env) fp) tg g)
    (ht : ∀ (r : Shared) (G : Hp) (C : Addr) (cl : List (Str × Addr)) (fp : List Addr), PTs (X.blk r G scope (compEnvC scope cl C X.env) fp) ifs tt)
    (hk : ∀ (r : Shared) (G : Hp) (C : Addr) (cl : List (Str × Addr)) (fp : List Addr), PE (X.blk r G scope (compEnvC scope cl C X.env) fp) kx tk)
    (he : ∀ (r : Shared) (G : Hp) (C : Addr) (cl : List (Str × Addr)) (fp : List Addr), PE (X.blk r G scope (compEnvC scope cl C X.env) fp) vx tv)
    (hs : ∀ x, foldedSetIterable iter X.env x = pure x := by intro _; rfl) :
    PS X (.Assign [.Name y py] (.DictComp kx vx [⟨tg, iter, ifs, 0⟩] scope pos) spos) (tAsg (tDc wi g tt tk tv (own.map (·.2))) (gName i)) := by
  constructor
  intro pins s σ H D I h
  rw [exec_Assign_Name_used _ _ _ _ hsw]
  refine wpAny_bind (wpAny_standAt (wpAny_bind ?_))
  show wpAny _ X.A (do let _ ← comprehension (.DictComp kx vx [⟨tg, iter, ifs, 0⟩] scope pos) scope X.env _ newDict false (eval iter X.env) (some (assign (.Name y py) X.env))) _ _ s
  refine wpAny_bind (thn (dc_core (Qf := fun _ r => SP X pins D .next r) (Q := fun x G => gName i x σ G D.nx) hc hN I hi ok hg ht hk he hs h fun d C r m G J q hn f => ?_) fun _ r hq => wpAny_pure (wpAny_pure hq))
  show wpAny _ _ (assign (.Name y py) X.env (.ref d)) _ _ _
  refine wpAny_assign_Name (store_ok2 (v := V.ref d) J hN hy (Or.inl hyl) rfl (fun r2 J2 sb => ?_) (Or.inr hyl))
  obtain ⟨a, sb, ha⟩ := sb
  obtain ⟨f0, f1, f2, f3, f4, f5⟩ := f
  have apart : C ≠ a := by
    rcases ha with z | z
    · rw [z]; exact f1
    · exact fun e => f4 y a z e.symm
  exact ⟨m, hn.sameBut sb apart, fun h3 sb3 => ⟨_, G, J2.turned (t' := r2.toks) (fun b o hb e => (sb3.2 b hb).trans e) f0 f1 f3 f4 f5, q⟩⟩
theorem sw_dc {kx vx : Expr} {gs : List Comprehension} {scope : Scope} {pos py : Pos} {y : Str} {l : Nat} {env : Env} (hk : env.scope.kind = .function) (hy : env.scope.names.lookup y = some .local) (hl : (py.line == pos.line) = true)
    (ha : (scope.names.any fun (n, k) => n == y && (k == .local || k == .cell)) = false) : swapsWith (.DictComp kx vx gs scope pos) (some (.Name y py)) l env = pure true := by
  have e1 : env.kindOf y = some .local := hy
  have e2 : env.blockKind = .function := by unfold Env.blockKind; rw [hk]; rfl
  unfold swapsWith
  simp only [e2, e1, ha, Expr.pos, hl]
  rfl
end WR
namespace WR
open PySem PySem.Spec PyProof.Rows L2
section
variable {P : Program} {w : World} {K : PySem.W.Frag} {mg : Str → Option Value} {base : Heap} {f : Addr} {fd : FuncData} {T : Addr}
/-! ### bad_road -/
abbrev s_bad_road : Stmt := topS 13
abbrev N_bad_road : List Str := ["homes", "roads", "names", "joined", "k", "road", "near", "far", "name", "_"]
abbrev P_bad_road : List Str := ["homes", "roads"]
theorem sc_bad_road : FnScope N_bad_road P_bad_road (defScope s_bad_road) := ⟨rfl, rfl, rfl, by decide +kernel, rfl, by decide +kernel, by decide +kernel⟩

def sp_bad_road : Sp := fun vs H Q _ => ∃ vh hs vr rs, vs = [vh, vr] ∧ DV H vh (.tuple hs) ∧ (∀ d ∈ hs, isEntry d = true) ∧ DV H vr (.tuple rs) ∧ ∀ H' r, StayT H H' → DV H' r (badRoad 0 (hs.map entryName) [] rs) → Q r H'
theorem ok_bad_road (F : FnP K "bad_road" s_bad_road f fd) (fr : Free mg) (c_is_text_pair : Cal P w K mg base "is_text_pair" 2 P_is_text_pair sp_is_text_pair) :
    FnOk P w K mg base (L2.CX P w) 3 f fd P_bad_road sp_bad_road := by
  refine F.ok sc_bad_road (fun vs H Q E h => ?_) (fun cdv A outer s H vs Q E hr h => ⟨_, PSs.nox (pss_cons (ps_setDc (i := 2) (own := [("name", 8), ("_", 9)]) (g := gTup K 2 (gCons (gName 8) (gCons (gName 9) (gNil)))) (tt := tYes) rfl sc_bad_road.nd rfl rfl (sw_dc rfl rfl rfl (by decide +kernel)) (pi_tup (pv 0)) (blkOk_by (N := N_bad_road) (sc := defScope s_bad_road) (by decide +kernel)) (fun _ _ _ _ _ => (pg_tup rfl (pgs_cons (pg_name (i := 8) sc_bad_road.nd rfl (Or.inl rfl)) (pgs_cons (pg_name (i := 9) sc_bad_road.nd rfl (Or.inl rfl)) pgs_nil)))) (fun _ _ _ _ _ => pts_nil) (fun _ _ _ _ _ => (pv 8)) (fun _ _ _ _ _ => pe_bl))
    (pss_cons (ps_set (i := 3) sc_bad_road.nd rfl (Or.inl rfl) pe_dnewT)
    (pss_cons (ps_for PassesOwn.never rfl (pi_enumT rfl (fr "enumerate" (by decide)) (pa_cons (pv 1) pa_nil)) (pg_tup rfl (pgs_cons (pg_name (i := 4) sc_bad_road.nd rfl (Or.inl rfl)) (pgs_cons (pg_name (i := 5) sc_bad_road.nd rfl (Or.inl rfl)) pgs_nil))) (pss_cons (ps_if (PW.pt (pw_or (pt_not (pt_val (pe_F c_is_text_pair (hr.mono (by omega)) (pa_cons (pv 5) pa_nil)))) (pw_or1 (pt_cmp (pc_din (hu_of hr) (pv 5) (pv 3)))))) (pss_one (ps_ret (pe_tup (pa_cons pe_str (pa_cons (pv 4) pa_nil))))) pss_nil)
    (pss_cons (ps_asg (pv 5) (pg_tup rfl (pgs_cons (pg_name (i := 6) sc_bad_road.nd rfl (Or.inl rfl)) (pgs_cons (pg_name (i := 7) sc_bad_road.nd rfl (Or.inl rfl)) pgs_nil))))
    (pss_cons (ps_if (PW.pt (pw_or (pt_cmp (pc_dnotin (hu_of hr) (pv 6) (pv 2))) (pw_or (pt_cmp (pc_dnotin (hu_of hr) (pv 7) (pv 2))) (pw_or1 (pt_cmpR op_eq (pv 6) (pv 7) (nomark _)))))) (pss_one (ps_ret (pe_tup (pa_cons pe_str (pa_cons (pv 4) pa_nil))))) pss_nil)
    (pss_cons (ps_dput (hu_of hr) (pv 3) (pe_tup (pa_cons (pv 6) (pa_cons (pv 7) pa_nil))) pe_bl rfl)
    (pss_one (ps_dput (hu_of hr) (pv 3) (pe_tup (pa_cons (pv 7) (pa_cons (pv 6) pa_nil))) pe_bl rfl)))))))
    (pss_one (ps_ret pe_non))))), ?_⟩)
  · obtain ⟨vh, hs, vr, rs, rfl, _⟩ := h; rfl
  · obtain ⟨vh, hs, vr, rs, rfl, hdh, ent, hdr, q⟩ := h
    obtain ⟨a, xs, rfl, ha, hxs, hl⟩ := dv_tup hdh
    obtain ⟨b, ys, rfl, hb, hys, hl2⟩ := dv_tup hdr
    refine ⟨_, rfl, a, rfl, ⟨xs, SqT.of ha⟩, fun nd nnd => ?_⟩
    refine dc_tup (xs := xs) (fun i H1 => StayT H H1 ∧ ∃ kvs, H1 nd = some (.dK kvs) ∧ KeysAre kvs (KS ((hs.take i).map entryName)) ∧ kvs.length ≤ i) ?c0 ?cl ?cs ?cd
    case c0 => exact ⟨(StayT.refl H).new nnd, [], upd_same, keys_congr keys_nil fun k => by simp [KS], Nat.le_refl _⟩
    case cl =>
      rintro i H1 hi ⟨s1, _⟩
      exact SqT.of (s1.same _ _ ha fun _ z => nomatch z)
    case cs =>
      rintro i x H1 hx ⟨s1, kvs, hnd, hk, hle⟩
      obtain ⟨d, hd1, hdx, _, htake⟩ := dvs_at hxs hx
      have en := ent d (List.mem_of_getElem? hd1)
      obtain ⟨nm, w0, rfl, _, _⟩ := entry_shape en
      obtain ⟨pa, zs, rfl, hpa, hzs, _⟩ := dv_tup (hdx.stay s1)
      cases hzs with
      | @cons v0 vs0 d0 ds0 h0 t0 =>
        cases t0 with
        | @cons v1 vs1 d1 ds1 h1 t1 =>
          cases t1
          cases dv_str h0
          refine ⟨pa, _, rfl, SqT.of hpa, rfl, _, _, rfl, _, _, rfl, rfl, rfl, ?_⟩
          refine yes_go ?_
          refine ⟨_, rfl, kvs, Sum.inr nm, rfl, hnd, ?_, ?_⟩
          · have h1 : xs.length = hs.length := hxs.length
            have h2 : i < xs.length := (List.getElem?_eq_some_iff.mp hx).1
            have h3 : kvs.length < 1000 := by omega
            exact Nat.lt_trans h3 (by decide)
          · refine ⟨s1.upd nnd, _, upd_same, keys_congr (keys_put hk (Sum.inr nm) (.bl true)) fun k => ?_, ?_⟩
            · rw [htake, List.map_append]; exact ks_snoc k
            · have := putK_le kvs (Sum.inr nm) (.bl true); omega
    case cd =>
      rintro H1 ⟨s1, kvs, hnd, hk, hle⟩
      rw [hxs.length, List.take_length] at hk
      refine fun jd njd => ?_
      have nnj : nd ≠ jd := ne_of_none hnd njd
      refine ⟨_, rfl, b, ys, rfl, SqT.of (by rw [upd_ne (ne_of_none (s1.same _ _ hb fun _ z => nomatch z) njd)]; exact s1.same _ _ hb fun _ z => nomatch z), ?_⟩
      have hdn : H jd = none := s1.none njd
      refine for_it (walk_enumT (xs := ys)) (fun i σ H2 => ∃ (pairs : List (Str × Str)) (jks : List (List Key × V)) (v4 v5 v6 v7 : Option V), σ = [some (.ref a), some (.ref b), some (.ref nd), some (.ref jd), v4, v5, v6, v7, none, none] ∧ StayT H H2 ∧ H2 nd = some (.dK kvs) ∧ H2 jd = some (.dT jks) ∧
        KeysAre jks (KP pairs) ∧ jks.length ≤ 2 * i ∧ badRoad 0 (hs.map entryName) [] rs = badRoad i (hs.map entryName) pairs (rs.drop i)) ?h0 ?hG ?hs ?hd
      case h0 => exact ⟨[], [], none, none, none, none, rfl, s1.new njd, by rw [upd_ne nnj]; exact hnd, upd_same, keys_congr keys_nil fun k => by simp [KP], Nat.le_refl _, rfl⟩
      case hG =>
        rintro i σ H2 hi ⟨pairs, jks, v4, v5, v6, v7, rfl, s2, _⟩
        exact SqT.of (s2.same _ _ hb fun _ z => nomatch z)
      case hs =>
        rintro i x σ H2 H3 hi ⟨pairs, jks, v4, v5, v6, v7, rfl, s2, hn2, hj2, hkp, hle2, e⟩ ⟨p, i0, x, rfl, hp, rfl, e0, hx⟩
        cases e0
        obtain ⟨d, _, hdx, hdrop, _⟩ := dvs_at hys hx
        have s3 := s2.new (o := .tup [.int (i : Nat), x]) hp
        have hdx3 := hdx.stay s3
        have hn3 : upd H2 p (.tup [.int (i : Nat), x]) nd = some (.dK kvs) := by rw [upd_ne (ne_of_none hn2 hp)]; exact hn2
        have hj3 : upd H2 p (.tup [.int (i : Nat), x]) jd = some (.dT jks) := by rw [upd_ne (ne_of_none hj2 hp)]; exact hj2
        rw [hdrop] at e
        have hp3 : upd H2 p (.tup [.int (i : Nat), x]) p = some (.tup [.int (i : Nat), x]) := upd_same
        revert s3 hdx3 hn3 hj3 hp3
        generalize L2.upd H2 p (.tup [.int (i : Nat), x]) = H3
        intro s3 hdx3 hn3 hj3 hp3
        refine ⟨p, _, rfl, SqT.of hp3, rfl, _, _, rfl, _, _, rfl, rfl, ?_⟩
        have bad : roadOk (hs.map entryName) pairs d = false → ∀ (D : Ends) (v6 v7 : Option V), D.rt = Q → tRet (tTup (tCons (tC (.str "road")) (tCons (tVar 4) tNil))) D [some (.ref a), some (.ref b), some (.ref nd), some (.ref jd), some (.int (i : Nat)), some x, v6, v7, none, none] H3 := fun z D v6 v7 eD => by
          unfold tRet
          rw [eD]
          refine ⟨_, rfl, by show 2 ≤ sizeLine; decide, fun r hr2 => q _ _ (s3.new hr2) ?_⟩
          have eb : badRoad 0 (hs.map entryName) [] rs = .tuple [.str "road", .int i] := by rw [e]; unfold badRoad; rw [z]; rfl
          rw [eb]
          exact .tup upd_same (.two (.str (by decide +kernel) (by decide +kernel)) (.int _)) (by show 2 ≤ 1000; decide)
        refine ⟨x, rfl, x, d, rfl, hdx3, _, rfl, ?_⟩
        cases etp : isTextPair d with
        | false => exact iteT (bad (roadOk_text etp) _ _ _ rfl)
        | true =>
          obtain ⟨sa, sb, rfl⟩ := textPair_shape etp
          obtain ⟨px, zs, rfl, hpx, hzs, _⟩ := dv_tup hdx3
          cases hzs with
          | @cons v0 vs0 d0 ds0 h0 t0 =>
            cases t0 with
            | @cons v1 vs1 d1 ds1 h1 t1 =>
              cases t1
              cases dv_str h0
              cases dv_str h1
              refine iteF ⟨.ref px, rfl, .ref jd, rfl, jd, _, rfl, DGet.t (k := [Sum.inr sa, Sum.inr sb]) hj3 hpx, _, rfl, ?_⟩
              have okE : roadOk (hs.map entryName) pairs (.tuple [.str sa, .str sb]) = ((decide (sa ∈ hs.map entryName) && decide (sb ∈ hs.map entryName)) && (decide (sa ≠ sb) && (!decide ((sa, sb) ∈ pairs) && !decide ((sb, sa) ∈ pairs)))) := rfl
              by_cases kp : (sa, sb) ∈ pairs ∨ (sb, sa) ∈ pairs
              · have z : (valV jks [Sum.inr sa, Sum.inr sb]).isSome = true := (hkp _).mpr (kp_in.mpr kp)
                rw [z]
                refine iteT (bad ?_ _ _ _ rfl)
                rw [okE]
                rcases kp with kp | kp <;> simp [kp]
              · have z : (valV jks [Sum.inr sa, Sum.inr sb]).isSome = false := by
                  cases zz : (valV jks [Sum.inr sa, Sum.inr sb]).isSome with
                  | false => rfl
                  | true => exact absurd (kp_in.mp ((hkp _).mp zz)) kp
                rw [z]
                refine iteF ⟨.ref px, rfl, px, _, rfl, SqT.of hpx, rfl, _, _, rfl, _, _, rfl, rfl, ?_⟩
                refine ⟨.str sa, rfl, .ref nd, rfl, nd, _, rfl, DGet.k (k := Sum.inr sa) hn3, _, rfl, ?_⟩
                by_cases ka : sa ∈ hs.map entryName
                · have za : (valV kvs (Sum.inr sa)).isSome = true := (hk _).mpr (ks_in.mpr ka)
                  rw [za]
                  refine iteF ⟨.str sb, rfl, .ref nd, rfl, nd, _, rfl, DGet.k (k := Sum.inr sb) hn3, _, rfl, ?_⟩
                  by_cases kb : sb ∈ hs.map entryName
                  · have zb : (valV kvs (Sum.inr sb)).isSome = true := (hk _).mpr (ks_in.mpr kb)
                    rw [zb]
                    refine iteF ⟨.str sa, rfl, .str sb, rfl, rfl, _, rfl, ?_⟩
                    by_cases ne : sa = sb
                    · rw [decide_eq_true (show V.str sa = V.str sb by rw [ne])]
                      refine iteT (bad ?_ _ _ _ rfl)
                      rw [okE]; simp [ne]
                    · rw [decide_eq_false (fun z => ne (V.str.inj z))]
                      have good : roadOk (hs.map entryName) pairs (.tuple [.str sa, .str sb]) = true := by
                        rw [okE]
                        simp only [ka, kb, ne, decide_true, Bool.and_true, ne_eq, not_false_eq_true, Bool.true_and, Bool.and_eq_true, Bool.not_eq_true', decide_eq_false_iff_not]
                        exact ⟨fun z => kp (.inl z), fun z => kp (.inr z)⟩
                      have lt : jks.length + 1 < sizeLine := by
                        have h1 : ys.length = rs.length := hys.length
                        have h3 : jks.length + 1 < 3000 := by omega
                        exact Nat.lt_trans h3 (by decide)
                      refine iteF ⟨.ref jd, rfl, .str sa, rfl, .str sb, rfl, (by show 2 ≤ sizeLine; decide), fun k1 nk1 => ?_⟩
                      have j1 : jd ≠ k1 := ne_of_none hj3 nk1
                      refine ⟨jd, _, rfl, DPut.t (k := [Sum.inr sa, Sum.inr sb]) (by rw [upd_ne j1]; exact hj3) upd_same (by omega), ?_⟩
                      refine ⟨.ref jd, rfl, .str sb, rfl, .str sa, rfl, (by show 2 ≤ sizeLine; decide), fun k2 nk2 => ?_⟩
                      have j2 : jd ≠ k2 := ne_of_none upd_same nk2
                      refine ⟨jd, _, rfl, DPut.t (k := [Sum.inr sb, Sum.inr sa]) (by rw [upd_ne j2]; exact upd_same) upd_same (Nat.lt_of_le_of_lt (putK_le _ _ _) lt), ?_⟩
                      have l1 := putK_le jks [Sum.inr sa, Sum.inr sb] (.bl true)
                      have l2 := putK_le (putK jks [Sum.inr sa, Sum.inr sb] (.bl true)) [Sum.inr sb, Sum.inr sa] (.bl true)
                      have nn1 : nd ≠ k1 := ne_of_none hn3 nk1
                      have nnj3 : nd ≠ jd := nnj
                      have nn2 : nd ≠ k2 := ne_of_none (show upd (upd H3 k1 (.tup [.str sa, .str sb])) jd (.dT (putK jks [Sum.inr sa, Sum.inr sb] (.bl true))) nd = some (.dK kvs) by rw [upd_ne nnj3, upd_ne nn1]; exact hn3) nk2
                      refine ⟨pairs ++ [(sa, sb)], _, _, _, _, _, rfl, (((s3.new nk1).upd hdn).new nk2).upd hdn, ?_, upd_same, keys_congr (keys_put (keys_put hkp [Sum.inr sa, Sum.inr sb] (.bl true)) [Sum.inr sb, Sum.inr sa] (.bl true)) fun k => kp_snoc k, by omega, ?_⟩
                      · rw [upd_ne nnj3, upd_ne nn2, upd_ne nnj3, upd_ne nn1]; exact hn3
                      · rw [e]; conv => lhs; unfold badRoad
                        rw [if_pos good]
                        rfl
                  · have zb : (valV kvs (Sum.inr sb)).isSome = false := by
                      cases zz : (valV kvs (Sum.inr sb)).isSome with
                      | false => rfl
                      | true => exact absurd (ks_in.mp ((hk _).mp zz)) kb
                    rw [zb]
                    refine iteT (bad ?_ _ _ _ rfl)
                    rw [okE]; simp [kb]
                · have za : (valV kvs (Sum.inr sa)).isSome = false := by
                    cases zz : (valV kvs (Sum.inr sa)).isSome with
                    | false => rfl
                    | true => exact absurd (ks_in.mp ((hk _).mp zz)) ka
                  rw [za]
                  refine iteT (bad ?_ _ _ _ rfl)
                  rw [okE]; simp [ka]
      case hd =>
        rintro σ H2 ⟨pairs, jks, v4, v5, v6, v7, rfl, s2, hn2, hj2, hkp, hle2, e⟩
        refine q _ _ s2 ?_
        rw [e, hys.length, List.drop_length]
        exact .non
end
end WR
namespace WR
open PySem PySem.Spec PyProof.Rows L2
section
variable {P : Program} {w : World} {K : PySem.W.Frag} {mg : Str → Option Value} {base : Heap} {f : Addr} {fd : FuncData} {T : Addr}
/-! ### town_wrong -/
abbrev s_town_wrong : Stmt := topS 14
abbrev N_town_wrong : List Str := ["thing", "homes", "roads"]
abbrev P_town_wrong : List Str := ["thing"]
theorem sc_town_wrong : FnScope N_town_wrong P_town_wrong (defScope s_town_wrong) := ⟨rfl, rfl, rfl, by decide +kernel, rfl, by decide +kernel, by decide +kernel⟩

def sp_town_wrong (T : Addr) : Sp := fun vs H Q _ => ∃ v d, vs = [v] ∧ DV H v d ∧ TG T H ∧ ∀ H' r, StayT H H' → DV H' r (townWrong d) → Q r H'
theorem ok_town_wrong (F : FnP K "town_wrong" s_town_wrong f fd) (fr : Free mg) (c_is_pair : Cal P w K mg base "is_pair" 1 P_is_pair sp_is_pair) (c_bad_home : Cal P w K mg base "bad_home" 3 P_bad_home (sp_bad_home T)) (c_bad_road : Cal P w K mg base "bad_road" 3 P_bad_road sp_bad_road) :
    FnOk P w K mg base (L2.CX P w) 4 f fd P_town_wrong (sp_town_wrong T) := by
  refine F.ok sc_town_wrong (fun vs H Q E h => ?_) (fun cdv A outer s H vs Q E hr h => ⟨_, PSs.nox (pss_cons (ps_if (pt_not (pt_val (pe_F c_is_pair (hr.mono (by omega)) (pa_cons (pv 0) pa_nil)))) (pss_one (ps_ret (pe_tup (pa_cons pe_str pa_nil)))) pss_nil)
    (pss_cons (ps_asg (pv 0) (pg_tup rfl (pgs_cons (pg_name (i := 1) sc_town_wrong.nd rfl (Or.inl rfl)) (pgs_cons (pg_name (i := 2) sc_town_wrong.nd rfl (Or.inl rfl)) pgs_nil))))
    (pss_cons (ps_if (PW.pt (pw_or (pt_not (pt_val (pe_callB call_isD (by rfl) (fr "isinstance" (by decide)) (by decide +kernel) (pa_cons (pv 1) (pa_cons (pe_ty (n := "tuple") fr) pa_nil))))) (pw_or (pt_not (pt_val (pe_callB call_isD (by rfl) (fr "isinstance" (by decide)) (by decide +kernel) (pa_cons (pv 2) (pa_cons (pe_ty (n := "tuple") fr) pa_nil))))) (pw_or1 (pt_cmpR (op_eqU hr.units0) (pv 1) (pe_tup pa_nil) (nomark _)))))) (pss_one (ps_ret (pe_tup (pa_cons pe_str pa_nil)))) pss_nil)
    (pss_one (ps_ret (pe_orT (pe_F c_bad_home (hr.mono (by omega)) (pa_cons (pv 1) pa_nil)) (pe_one (pe_F c_bad_road (hr.mono (by omega)) (pa_cons (pv 1) (pa_cons (pv 2) pa_nil)))))))))), ?_⟩)
  · obtain ⟨v, d, rfl, _⟩ := h; rfl
  · obtain ⟨v, d, rfl, hd, tg, q⟩ := h
    have no : (∀ e l rs, d ≠ .tuple [.tuple (e :: l), .tuple rs]) → ∀ (D : Ends) (σ : L2.St) (H1 : Hp), StayT H H1 → D.rt = Q → tRet (tTup (tCons (tC (.str "town")) tNil)) D σ H1 := fun z D σ H1 s1 eD => by
      unfold tRet
      rw [eD]
      refine ⟨by show 1 ≤ sizeLine; decide, fun r hr2 => q _ _ (s1.new hr2) ?_⟩
      rw [town_not z]
      exact .tup upd_same (.one (.str (by decide +kernel) (by decide +kernel))) (by show 1 ≤ 1000; decide)
    refine ⟨v, rfl, v, d, rfl, hd, _, rfl, ?_⟩
    rcases pair_cases d with ⟨a, b, rfl⟩ | ⟨z, _, _⟩
    · obtain ⟨p, zs, rfl, hp, hzs, _⟩ := dv_tup hd
      cases hzs with
      | @cons va vs0 d0 ds0 ha t0 =>
        cases t0 with
        | @cons vb vs1 d1 ds1 hb t1 =>
          cases t1
          refine iteF ⟨.ref p, rfl, p, _, rfl, SqT.of hp, rfl, _, _, rfl, _, _, rfl, rfl, ?_⟩
          refine ⟨va, rfl, va, "tuple", a, rfl, ha, .inr (.inr (.inr rfl)), _, rfl, ?_⟩
          cases ea : isD "tuple" a with
          | false => exact iteT (no (fun e l rs z => by cases z; cases ea) _ _ _ (StayT.refl H) rfl)
          | true =>
            refine iteF ⟨vb, rfl, vb, "tuple", b, rfl, hb, .inr (.inr (.inr rfl)), _, rfl, ?_⟩
            cases eb : isD "tuple" b with
            | false => exact iteT (no (fun e l rs z => by cases z; cases eb) _ _ _ (StayT.refl H) rfl)
            | true =>
              obtain ⟨la, rfl⟩ := isD_tuple ea
              obtain ⟨lb, rfl⟩ := isD_tuple eb
              refine iteF ⟨va, rfl, (by show 0 ≤ sizeLine; decide), fun u nu => ?_⟩
              have su := (StayT.refl H).new (o := .tup []) nu
              refine ⟨.tuple la, u, ha.stay su, rfl, upd_same, _, rfl, ?_⟩
              cases la with
              | nil => exact iteT (no (fun e l rs z => by cases z) _ _ _ su rfl)
              | cons e l =>
                refine iteF ⟨va, rfl, va, e :: l, rfl, ha.stay su, su.tabG tg, fun H1 r s1 hr1 => ?_⟩
                have s2 := su.trans s1
                rcases bad_shape (e :: l) 0 [] with z | ⟨i, z⟩
                · rw [z] at hr1
                  cases hr1
                  refine ⟨false, rfl, iteF ?_⟩
                  refine ⟨va, rfl, vb, rfl, va, e :: l, vb, lb, rfl, ha.stay s2, badHome_none _ _ _ z, hb.stay s2, fun H2 r2 s3 hr2 => q _ _ (s2.trans s3) ?_⟩
                  have et : townWrong (.tuple [.tuple (e :: l), .tuple lb]) = badRoad 0 ((e :: l).map entryName) [] lb := by
                    show orElse (badHome 0 [] (e :: l)) (badRoad 0 ((e :: l).map entryName) [] lb) = _; rw [z]; rfl
                  rw [et]
                  exact hr2
                · rw [z] at hr1
                  obtain ⟨pr, xr, rfl, hpr, hxr, _⟩ := dv_tup hr1
                  refine ⟨true, .inr (.inl ⟨xr, SqT.of hpr, ?_⟩), iteT (q _ _ s2 ?_)⟩
                  · cases hxr with
                    | cons _ _ => rfl
                  · have et : townWrong (.tuple [.tuple (e :: l), .tuple lb]) = .tuple [.str "home", .int i] := by
                      show orElse (badHome 0 [] (e :: l)) (badRoad 0 ((e :: l).map entryName) [] lb) = _; rw [z]; rfl
                    rw [et]
                    exact hr1
    · rw [z]
      exact iteT (no (fun e l rs y => by rw [y] at z; cases z) _ _ _ (StayT.refl H) rfl)
/-! ### what is raised -/
def RaisesF (C : Addr) (f : Str) (d : PyData) (H : Hp) (E : XK) : Prop := ∀ H' dd r, StayT H H' → H' dd = some (.xd [(f, r)]) → DV H' r d → E (.ref C) (some dd) H'
/-! ### check_town -/
abbrev s_check_town : Stmt := topS 15
abbrev N_check_town : List Str := ["town", "wrong"]
abbrev P_check_town : List Str := ["town"]
theorem sc_check_town : FnScope N_check_town P_check_town (defScope s_check_town) := ⟨rfl, rfl, rfl, by decide +kernel, rfl, by decide +kernel, by decide +kernel⟩

def sp_check_town (T CT : Addr) : Sp := fun vs H Q E => ∃ v d, vs = [v] ∧ DV H v d ∧ TG T H ∧ (townWrong d = .none → ∀ H', StayT H H' → Q .non H') ∧ (townWrong d ≠ .none → RaisesF CT "wrong" (townWrong d) H E)
theorem ok_check_town {CT : Addr} (F : FnP K "check_town" s_check_town f fd) (fr : Free mg) (c_town_wrong : Cal P w K mg base "town_wrong" 4 P_town_wrong (sp_town_wrong T)) (x_NoTown : ExcF P w K mg base "NoTown" "wrong" CT) :
    FnOk P w K mg base (L2.CX P w) 5 f fd P_check_town (sp_check_town T CT) := by
  refine F.ok sc_check_town (fun vs H Q E h => ?_) (fun cdv A outer s H vs Q E hr h => ⟨_, (pss_cons (ps_set (i := 1) sc_check_town.nd rfl (Or.inl rfl) (pe_F c_town_wrong (hr.mono (by omega)) (pa_cons (pv 0) pa_nil)))
    (pss_one (ps_if (pt_cmpR op_notN (pv 1) pe_non (nomark _)) (pss_one (ps_raise rfl (takes_of (E := E) rfl rfl rfl rfl) (pmk_1 x_NoTown (hr.mono (by omega)) (pv 1)))) pss_nil))), ?_⟩)
  · obtain ⟨v, d, rfl, _⟩ := h; rfl
  · obtain ⟨v, d, rfl, hd, tg, q, x⟩ := h
    refine ⟨v, rfl, v, d, rfl, hd, tg, fun H1 r s1 hr1 => ?_⟩
    refine ⟨r, rfl, rfl, _, rfl, ?_⟩
    by_cases z : townWrong d = .none
    · rw [z] at hr1
      cases hr1
      exact iteF (q z _ s1)
    · have nr : r ≠ .non := fun e => by
        rw [e] at hr1
        cases hh : townWrong d with
        | none => exact z hh
        | _ => rw [hh] at hr1; cases hr1
      rw [decide_eq_false nr]
      refine iteT ⟨r, rfl, made1 fun d2 hd2 => x z _ _ _ (s1.new hd2) upd_same (hr1.stay ((StayT.refl H1).new hd2))⟩
end
end WR
namespace WR
open PySem PySem.Spec PyProof.Rows L2
section
variable {P : Program} {w : World} {K : PySem.W.Frag} {mg : Str → Option Value} {base : Heap} {f : Addr} {fd : FuncData} {T : Addr}
/-! ### standing_wrong -/
abbrev s_standing_wrong : Stmt := topS 16
abbrev N_standing_wrong : List Str := ["town", "thing", "hands", "k", "there"]
abbrev P_standing_wrong : List Str := ["town", "thing"]
theorem sc_standing_wrong : FnScope N_standing_wrong P_standing_wrong (defScope s_standing_wrong) := ⟨rfl, rfl, rfl, by decide +kernel, rfl, by decide +kernel, by decide +kernel⟩

def sp_standing_wrong (T CT : Addr) : Sp := fun vs H Q E => ∃ v d v2 d2, vs = [v, v2] ∧ DV H v d ∧ DV H v2 d2 ∧ TG T H ∧ (townWrong d = .none → ∀ H' r, StayT H H' → DV H' r (standingWrong d d2) → Q r H') ∧ (townWrong d ≠ .none → RaisesF CT "wrong" (townWrong d) H E)
theorem ok_standing_wrong {CT : Addr} (F : FnP K "standing_wrong" s_standing_wrong f fd) (fr : Free mg) (c_check_town : Cal P w K mg base "check_town" 5 P_check_town (sp_check_town T CT)) (c_is_entry : Cal P w K mg base "is_entry" 2 P_is_entry (sp_is_entry T)) :
    FnOk P w K mg base (L2.CX P w) 6 f fd P_standing_wrong (sp_standing_wrong T CT) := by
  refine F.ok sc_standing_wrong (fun vs H Q E h => ?_) (fun cdv A outer s H vs Q E hr h => ⟨_, (pss_cons (ps_expr (pe_X (W := fun cls d _ H => E cls d H) c_check_town (hr.mono (by omega)) (takes_of (E := E) rfl rfl rfl rfl) (pa_cons (pv 0) pa_nil)))
    (pss_cons (ps_if (PW.pt (pw_or (pt_not (pt_val (pe_callB call_isD (by rfl) (fr "isinstance" (by decide)) (by decide +kernel) (pa_cons (pv 1) (pa_cons (pe_ty (n := "tuple") fr) pa_nil))))) (pw_or1 (pt_cmpR op_ne (pe_callB call_lenD' (by rfl) (fr "len" (by decide)) (by decide +kernel) (pa_cons (pv 1) pa_nil)) (pe_callB call_lenD' (by rfl) (fr "len" (by decide)) (by decide +kernel) (pa_cons (pe_ix ix_D (pv 0) pe_int (fun _ _ => rfl)) pa_nil)) (nomark _))))) (pss_one (ps_ret (pe_tup (pa_cons pe_str pa_nil)))) pss_nil)
    (pss_cons (ps_set (i := 2) sc_standing_wrong.nd rfl (Or.inl rfl) pe_dnewK)
    (pss_cons (ps_for (passes_of rfl) rfl (pi_enumT rfl (fr "enumerate" (by decide)) (pa_cons (pv 1) pa_nil)) (pg_tup rfl (pgs_cons (pg_name (i := 3) sc_standing_wrong.nd rfl (Or.inl rfl)) (pgs_cons (pg_name (i := 4) sc_standing_wrong.nd rfl (Or.inl rfl)) pgs_nil))) (pss_cons (ps_if (pt_cmpR (op_eqU hr.units0) (pv 4) (pe_tup pa_nil) (nomark _)) (pss_one ps_continue) pss_nil)
    (pss_cons (ps_if (PW.pt (pw_or (pt_not (pt_val (pe_F c_is_entry (hr.mono (by omega)) (pa_cons (pv 4) pa_nil)))) (pw_or1 (pt_cmp (pc_din (hu_of hr) (pe_ix ix_D (pv 4) pe_int (fun _ _ => rfl)) (pv 2)))))) (pss_one (ps_ret (pe_tup (pa_cons pe_str (pa_cons (pv 3) pa_nil))))) pss_nil)
    (pss_one (ps_dput (hu_of hr) (pv 2) (pe_ix ix_D (pv 4) pe_int (fun _ _ => rfl)) pe_bl rfl)))))
    (pss_one (ps_ret pe_non)))))), ?_⟩)
  · obtain ⟨v, d, v2, d2, rfl, _⟩ := h; rfl
  · obtain ⟨v, d, v2, d2, rfl, hd, hd2, tg, q, x⟩ := h
    refine ⟨v, rfl, v, d, rfl, hd, tg, fun tw H1 s1 => ?_, x⟩
    obtain ⟨e0, l0, rs, rfl, hbh, hbr⟩ := town_shape tw
    have hd1 := hd.stay s1
    have hv1 := hd2.stay s1
    have ret0 : standingWrong (.tuple [.tuple (e0 :: l0), .tuple rs]) d2 = .tuple [.str "standing"] → ∀ (D : Ends) (σ : L2.St), D.rt = Q → tRet (tTup (tCons (tC (.str "standing")) tNil)) D σ H1 := fun z D σ eD => by
      unfold tRet
      rw [eD]
      refine ⟨by show 1 ≤ sizeLine; decide, fun r hr2 => q tw _ _ (s1.new hr2) ?_⟩
      rw [z]
      exact .tup upd_same (.one (.str (by decide +kernel) (by decide +kernel))) (by show 1 ≤ 1000; decide)
    refine ⟨v2, rfl, v2, "tuple", d2, rfl, hv1, .inr (.inr (.inr rfl)), _, rfl, ?_⟩
    cases ha : isD "tuple" d2 with
    | false => exact iteT (ret0 (by cases d2 <;> first | rfl | cases ha) _ _ rfl)
    | true =>
      obtain ⟨l, rfl⟩ := isD_tuple ha
      refine iteF ⟨v2, rfl, v2, _, _, rfl, hv1, rfl, ?_⟩
      refine ⟨v, rfl, _, _, 0, hd1, rfl, rfl, fun vh hh => ⟨vh, _, _, rfl, hh, rfl, ?_⟩⟩
      refine ⟨rfl, _, rfl, ?_⟩
      by_cases len : l.length = (e0 :: l0).length
      case neg =>
        have zz : (!decide (V.int (l.length : Nat) = V.int ((e0 :: l0).length : Nat))) = true := by
          have z : ¬ V.int (l.length : Nat) = V.int ((e0 :: l0).length : Nat) := fun z => len (by injection z with z; omega)
          rw [decide_eq_false z]; rfl
        rw [zz]; exact iteT (ret0 (if_neg len) _ _ rfl)
      have zz : (!decide (V.int (l.length : Nat) = V.int ((e0 :: l0).length : Nat))) = false := by
        rw [len, decide_eq_true rfl]; rfl
      rw [zz]; refine iteF ?_
      have ew : standingWrong (.tuple [.tuple (e0 :: l0), .tuple rs]) (.tuple l) = badHand 0 [] l := if_pos len
      rw [ew] at q
      obtain ⟨a, xs, rfl, ha, hxs, hl⟩ := dv_tup hd2
      have ha1 := s1.same _ _ ha fun _ z => nomatch z
      refine fun dn ndn => ⟨_, rfl, a, xs, rfl, SqT.of (by rw [upd_ne (ne_of_none ha1 ndn)]; exact ha1), ?_⟩
      refine for_it (walk_enumT (xs := xs)) (fun i σ H2 => ∃ (seen : List Str) (kvs : List (Key × V)) (w3 w4 : Option V), σ = [some v, some (.ref a), some (.ref dn), w3, w4] ∧ StayT H1 H2 ∧ H2 dn = some (.dK kvs) ∧ KeysAre kvs (KS seen) ∧ kvs.length ≤ i ∧
          badHand 0 [] l = badHand i seen (l.drop i)) ?h0 ?hG ?hs ?hd
      case h0 => exact ⟨[], [], none, none, rfl, (StayT.refl H1).new ndn, upd_same, keys_congr keys_nil fun k => by simp [KS], Nat.le_refl _, rfl⟩
      case hG =>
        rintro i σ H2 hi ⟨seen, kvs, w3, w4, rfl, s2, hdn, hk, hle, e⟩
        exact SqT.of (s2.same _ _ ha1 fun _ z => nomatch z)
      case hs =>
        rintro i x σ H2 H3 hi ⟨seen, kvs, w3, w4, rfl, s2, hdn, hk, hle, e⟩ ⟨p, i0, y, rfl, hp, rfl, e0, hx⟩
        cases e0
        obtain ⟨d, _, hdx, hdrop, _⟩ := dvs_at (hxs.stay s1) hx
        have s3 := s2.new (o := .tup [.int (i : Nat), y]) hp
        have tg2 := s3.tabG (s1.tabG tg)
        have hdx2 := hdx.stay s3
        refine ⟨p, _, rfl, SqT.of upd_same, rfl, _, _, rfl, _, _, rfl, rfl, ?_⟩
        rw [hdrop] at e
        have hdn3 : upd H2 p (.tup [.int (i : Nat), y]) dn = some (.dK kvs) := by rw [upd_ne (ne_of_none hdn hp)]; exact hdn
        refine ⟨y, rfl, (by show 0 ≤ sizeLine; decide), fun u nu => ?_⟩
        have s4 := s3.new (o := .tup []) nu
        have hdn4 := hdn3
        have hdn4 : upd (upd H2 p (.tup [.int (i : Nat), y])) u (.tup []) dn = some (.dK kvs) := by rw [upd_ne (ne_of_none hdn3 nu)]; exact hdn3
        have hdx4 := hdx.stay s4
        have tg4 := s4.tabG (s1.tabG tg)
        refine ⟨d, u, hdx4, rfl, upd_same, _, rfl, ?_⟩
        cases hu : isUnit d with
        | true =>
          refine iteT ⟨seen, kvs, _, _, rfl, s4, hdn4, hk, by omega, ?_⟩
          rw [e]; conv => lhs; unfold badHand
          rw [if_pos (by simp [handOk, hu]), if_pos hu]
        | false =>
        refine iteF ⟨y, rfl, y, d, rfl, hdx4, tg4, fun H5 s5 => ⟨_, rfl, ?_⟩⟩
        have s15 := s4.trans s5
        have hdx5 := hdx.stay s15
        have hdn5 : H5 dn = some (.dK kvs) := s5.same _ _ hdn4 fun _ z => nomatch z
        have bad : homeOk seen d = false → badHand 0 [] l = .tuple [.str "hand", .int i] := fun z => by
          rw [e]; unfold badHand; simp [handOk, hu, z]
        have ret : homeOk seen d = false → ∀ D : Ends, D.rt = Q → tRet (tTup (tCons (tC (.str "hand")) (tCons (tVar 3) tNil))) D [some v, some (.ref a), some (.ref dn), some (.int (i : Nat)), some y] H5 := fun z D eD => by
          unfold tRet
          rw [eD]
          refine ⟨_, rfl, by show 2 ≤ sizeLine; decide, fun r hr2 => q tw _ _ ((s1.trans s15).new hr2) ?_⟩
          rw [bad z]
          exact .tup upd_same (.two (.str (by decide +kernel) (by decide +kernel)) (.int _)) (by show 2 ≤ 1000; decide)
        cases en : isEntry d with
        | false =>
          refine iteT ?_
          exact ret (by simp [homeOk, en]) _ rfl
        | true =>
          refine iteF ?_
          obtain ⟨nm, w0, rfl, _, _⟩ := entry_shape en
          refine ⟨y, rfl, .tuple [.str nm, .int w0], .str nm, 0, hdx5, rfl, rfl, fun vn hn => ?_⟩
          cases dv_str hn
          refine ⟨.ref dn, rfl, dn, _, rfl, DGet.k (k := Sum.inr nm) hdn5, _, rfl, ?_⟩
          by_cases ins : nm ∈ seen
          · have z : (valV kvs (Sum.inr nm)).isSome = true := (hk _).mpr (ks_in.mpr ins)
            rw [z]
            exact iteT (ret (by simp [homeOk, en, entryName, ins]) _ rfl)
          · have z : (valV kvs (Sum.inr nm)).isSome = false := by
              cases zz : (valV kvs (Sum.inr nm)).isSome with
              | false => rfl
              | true => exact absurd (ks_in.mp ((hk _).mp zz)) ins
            rw [z]
            refine iteF ⟨.ref dn, rfl, y, rfl, .tuple [.str nm, .int w0], .str nm, 0, hdx5, rfl, rfl, fun vn2 hn2 => ?_⟩
            cases dv_str hn2
            have hlt : kvs.length < sizeLine := by
              have h1 : xs.length = l.length := hxs.length
              have h2 : kvs.length < 1000 := by omega
              exact Nat.lt_trans h2 (by decide)
            refine ⟨dn, _, rfl, DPut.k (k := Sum.inr nm) hdn5 hlt, ?_⟩
            refine ⟨seen ++ [nm], _, _, _, rfl, s15.upd ndn, upd_same, keys_congr (keys_put hk (Sum.inr nm) (.bl true)) fun k => ks_snoc k, ?_, ?_⟩
            · have := putK_le kvs (Sum.inr nm) (.bl true); omega
            · rw [e]; conv => lhs; unfold badHand
              rw [if_pos (by simp [handOk, homeOk, en, entryName, ins]), if_neg (by rw [hu]; decide)]
              rfl
      case hd =>
        rintro σ H2 ⟨seen, kvs, w3, w4, rfl, s2, hdn, hk, hle, e⟩
        refine q tw _ _ (s1.trans s2) ?_
        rw [e, hxs.length, List.drop_length]
        exact .non
/-! ### check_standing -/
abbrev s_check_standing : Stmt := topS 17
abbrev N_check_standing : List Str := ["town", "standing", "wrong"]
abbrev P_check_standing : List Str := ["town", "standing"]
theorem sc_check_standing : FnScope N_check_standing P_check_standing (defScope s_check_standing) := ⟨rfl, rfl, rfl, by decide +kernel, rfl, by decide +kernel, by decide +kernel⟩

def sp_check_standing (T CT CS : Addr) : Sp := fun vs H Q E => ∃ v d v2 d2, vs = [v, v2] ∧ DV H v d ∧ DV H v2 d2 ∧ TG T H ∧ (townWrong d = .none → standingWrong d d2 = .none → ∀ H', StayT H H' → Q .non H') ∧ (townWrong d ≠ .none → RaisesF CT "wrong" (townWrong d) H E) ∧ (townWrong d = .none → standingWrong d d2 ≠ .none → RaisesF CS "wrong" (standingWrong d d2) H E)
theorem ok_check_standing {CT CS : Addr} (F : FnP K "check_standing" s_check_standing f fd) (fr : Free mg) (c_standing_wrong : Cal P w K mg base "standing_wrong" 6 P_standing_wrong (sp_standing_wrong T CT)) (x_NoStanding : ExcF P w K mg base "NoStanding" "wrong" CS) :
    FnOk P w K mg base (L2.CX P w) 7 f fd P_check_standing (sp_check_standing T CT CS) := by
  refine F.ok sc_check_standing (fun vs H Q E h => ?_) (fun cdv A outer s H vs Q E hr h => ⟨_, (pss_cons (ps_set (i := 2) sc_check_standing.nd rfl (Or.inl rfl) (pe_X (W := fun cls d _ H => E cls d H) c_standing_wrong (hr.mono (by omega)) (takes_of (E := E) rfl rfl rfl rfl) (pa_cons (pv 0) (pa_cons (pv 1) pa_nil))))
    (pss_one (ps_if (pt_cmpR op_notN (pv 2) pe_non (nomark _)) (pss_one (ps_raise rfl (takes_of (E := E) rfl rfl rfl rfl) (pmk_1 x_NoStanding (hr.mono (by omega)) (pv 2)))) pss_nil))), ?_⟩)
  · obtain ⟨v, d, v2, d2, rfl, _⟩ := h; rfl
  · obtain ⟨v, d, v2, d2, rfl, hd, hd2, tg, q, x1, x2⟩ := h
    refine ⟨v, rfl, v2, rfl, v, d, v2, d2, rfl, hd, hd2, tg, fun tw H1 r s1 hr1 => ?_, x1⟩
    refine ⟨r, rfl, rfl, _, rfl, ?_⟩
    by_cases z : standingWrong d d2 = .none
    · rw [z] at hr1
      cases hr1
      exact iteF (q tw z _ s1)
    · have nr : r ≠ .non := fun e => by
        rw [e] at hr1
        cases hh : standingWrong d d2 with
        | none => exact z hh
        | _ => rw [hh] at hr1; cases hr1
      rw [decide_eq_false nr]
      refine iteT ⟨r, rfl, made1 fun dd hdd => x2 tw z _ _ _ (s1.new hdd) upd_same (hr1.stay ((StayT.refl H1).new hdd))⟩
end
end WR
namespace WR
open PySem PySem.Spec PyProof.Rows L2
/-- a script: numbers -/
def Script (K : PySem.W.Frag) (H : Hp) (v : V) : Prop := ∃ (a : Addr) (ns : List Int), v = .ref a ∧ SqL K H a (ns.map V.int)
/-- a purse; k, what was counted, is at most b -/
def Purse (H : Hp) (p : Addr) (b : Nat) : Prop := ∃ n c k : Int, H p = some (.lst [.int n, .int c, .int k]) ∧ 0 ≤ k ∧ k ≤ b
end WR
namespace WR
open PySem PySem.Spec PyProof.Rows L2
/-! ## t[::-1], t a tuple of two -/
theorem sliceApplied_rev {prog : Program} {w : World} {A : Around} {E : Value → Shared → Prop} {s : Shared} {sl : Addr} {vs : Value} {Q : Int × Int × Nat → Shared → Prop} (hs : s.heap.IsSliceOf sl .none .none vs) (ps : IsPart vs (some (-1)))
    (h : Q (1, -1, 2) s) : wpAny (model prog w) A (Builtin.Slice.sliceApplied (.ref sl) (pure 2)) Q E s := by
  obtain ⟨os, hos, hcs, hds⟩ := hs
  unfold Builtin.Slice.sliceApplied Builtin.Slice.sliceFields
  refine wpAny_bind (wpAny_bind (wpAny_field hos hds rfl (wpAny_bind (wpAny_field hos hds rfl (wpAny_bind (wpAny_field hos hds rfl (wpAny_pure ?_)))))))
  refine wpAny_bind (HT.slicePart_ ps ?_)
  rw [if_neg (by decide)]
  refine wpAny_bind (PyProof.Rows.slicePart_none (wpAny_bind (PyProof.Rows.slicePart_none (wpAny_bind (wpAny_pure ?_)))))
  exact wpAny_pure h
theorem getItem_rev2 {prog : Program} {w : World} {A : Around} {E : Value → Shared → Prop} {s : Shared} {t sl : Addr} {x y vs : Value} {Q : Value → Shared → Prop} (ht : PyProof.Rows.IsTup s.heap t #[x, y]) (hs : s.heap.IsSliceOf sl .none .none vs) (ps : IsPart vs (some (-1)))
    (h : Q (.ref s.heap.objs.size) { heap := s.heap.push { cls := .type "tuple", data := .seq #[y, x] }, gens := s.gens, drawn := s.drawn, toks := s.toks, os := s.os }) : wpAny (model prog w) A (getItem (.ref t) (.ref sl)) Q E s := by
  have hTs : s.TypeIs (.ref sl) "slice" := by
    obtain ⟨os, hos, hcs, hds⟩ := hs
    exact ⟨os, hos, hcs⟩
  refine wpAny_holding (wpAny_bind (wpAny_sequenceKey ht.typeIs (by decide) (wpAny_bind (wpAny_callSpecial?_slot ht.typeIs PyProof.Rows.slot_tuple_getitem (wpAny_call_entry PyProof.Rows.slot_tuple_getitem ht.typeIs PyProof.Rows.entry_tuple_getitem ?_ (PyProof.Rows.args_tuple_getitem ..))))))
  refine wpAny_bind (show wpAny _ _ (pure ((Value.ref t), [Value.ref sl])) _ _ _ from wpAny_pure ?_)
  refine wpAny_bind (PyProof.Rows.tupleItemsOf_ ht (wpAny_bind (wpAny_typeOf hTs ?_)))
  rw [if_pos (by decide)]
  refine wpAny_bind (sliceApplied_rev hs ps ?_)
  refine wpAny_bind (wpAny_newObj_type ?_ (by show 2 ≤ sizeLine; decide))
  exact wpAny_pure ⟨_, rfl, wpAny_pure h⟩
def tRevT (K : PySem.W.Frag) (te : TE) : TE := fun σ H Q => te σ H fun x H1 => ∃ (a : Addr) (u v : V), x = .ref a ∧ SqT K H1 a [u, v] ∧ ∀ p, H1 p = none → Q (.ref p) (upd H1 p (.tup [v, u]))
theorem pe_revT {X : Cx} {e : Expr} {te : TE} {k : Nat} {p1 p2 p3 pos : Pos} (he : PE X e te) : PE X (.Subscript e (.Slice none none (some (.UnaryOp .USub (.Constant (.int 1) k p1) p2)) p3) pos) (tRevT X.K te) := by
  constructor
  intro pins s σ H Q I h
  refine PyProof.Rows.Subscript_ (thn (he.run pins s σ H _ I h) fun v s1 z => ?_)
  obtain ⟨x, H1, I1, r1, a, u, v2, rfl, hx, q⟩ := z
  cases (show v = Value.ref a from r1)
  have hst : PO X (some (.UnaryOp .USub (.Constant (.int 1) k p1) p2)) _ := po_some (pe_un un_neg pe_int)
  refine wpAny_Slice (thn (po_none.run pins s1 σ H1 (fun o H2 => o = none ∧ H2 = H1) I1 ⟨rfl, rfl⟩) fun vl s2 z => ?_)
  obtain ⟨l, H2, I2, pl, rfl, rfl⟩ := z
  refine thn (po_none.run pins s2 σ H2 (fun o H3 => o = none ∧ H3 = H2) I2 ⟨rfl, rfl⟩) fun vu s3 z => ?_
  obtain ⟨l3, H3, I3, pu, rfl, rfl⟩ := z
  refine thn (hst.run pins s3 σ H3 (fun o H4 => o = some (-1) ∧ H4 = H3) I3 ?_) fun vs s4 z => ?_
  · exact ⟨_, rfl, _, rfl, rfl, rfl⟩
  obtain ⟨l4, H4, I4, ps, rfl, rfl⟩ := z
  cases pl
  cases pu
  obtain ⟨its, rv, pt, _⟩ := I4.tuple hx
  obtain ⟨w1, w2, rfl, ra, rb⟩ := vals2 rv
  refine PyProof.Rows.tail_any (PyProof.Rows.IsTup.typeIs (pt.push _)) PyProof.Rows.slot_tuple_getitem.lookup ?_ rfl
  refine getItem_rev2 (pt.push _) (Heap.IsSliceOf.new ..) ps ?_
  let o1 : Obj := { cls := .type "slice", data := .fields #[Value.none, Value.none, vs] }
  have sz : (s4.heap.push o1).objs.size = s4.heap.objs.size + 1 := Heap.size_push ..
  refine ⟨V.ref (s4.heap.push o1).objs.size, _, I4.laid (o := .tup [v2, u]) (fun b u e => Heap.get?_push_of_some _ (Heap.get?_push_of_some _ e)) (by rw [sz]; exact Nat.le_succ _) ?_, rfl, q _ (I4.hok.fresh (by rw [sz]; exact Nat.le_succ _))⟩
  exact ⟨by show 2 ≤ sizeLine; decide, [w2, w1], .cons rb (.cons ra .nil), PyProof.Rows.IsTup.new ..⟩
end WR
namespace WR
open PySem PySem.Spec PyProof.Rows L2
def CPowB : Int → Int → Prop := fun i j => 0 ≤ j ∧ (Builtin.Int.intBits i : Int) * j ≤ 2 ^ 27
theorem op_powB {X : Cx} : OpR X (binaryOp .Pow) (rI CPowB fun i j => .int (i ^ j.toNat)) := opI fun _ _ _ _ _ _ _ hc q => PyProof.Rows.pow_int hc.1 hc.2 q
section
variable {P : Program} {w : World} {K : PySem.W.Frag} {mg : Str → Option Value} {base : Heap} {f : Addr} {fd : FuncData} {T : Addr}
/-! ### _law_at -/
abbrev s_law_at : Stmt := topS 27
abbrev N_law_at : List Str := ["script", "k"]
abbrev P_law_at : List Str := ["script", "k"]
theorem sc_law_at : FnScope N_law_at P_law_at (defScope s_law_at) := ⟨rfl, rfl, rfl, by decide +kernel, rfl, by decide +kernel, by decide +kernel⟩

def sp_law_at (K : PySem.W.Frag) : Sp := fun vs H Q _ => ∃ (v : V) (k : Nat), vs = [v, .int k] ∧ Script K H v ∧ ∀ i : Int, Q (.int i) H
theorem ok_law_at (F : FnP K "_law_at" s_law_at f fd) (fr : Free mg) : FnOk P w K mg base (L2.CX P w) 1 f fd P_law_at (sp_law_at K) := by
  refine F.ok sc_law_at (fun vs H Q E h => ?_) (fun cdv A outer s H vs Q E hr h => ⟨_, PSs.nox (pss_cons (ps_if (pt_cmpR op_lt (pv 1) (pe_callB call_len_seq (by rfl) (fr "len" (by decide)) (by decide +kernel) (pa_cons (pv 0) pa_nil)) (nomark _)) (pss_one (ps_ret (pe_ix ix_seq (pv 0) (pv 1) (fun _ _ => rfl)))) pss_nil)
    (pss_one (ps_ret pe_int))), ?_⟩)
  · obtain ⟨v, k, rfl, _⟩ := h; rfl
  · obtain ⟨v, k, rfl, ⟨a, ns, rfl, ha⟩, q⟩ := h
    refine ⟨_, rfl, _, rfl, _, _, rfl, .inl ha, _, _, rfl, rfl, _, rfl, ?_⟩
    by_cases z : ((k : Nat) : Int) < ((ns.map V.int).length : Nat)
    · rw [decide_eq_true z]
      have hk : k < ns.length := by simpa using z
      refine iteT ⟨_, rfl, _, rfl, .inl ⟨a, _, _, .int ns[k], rfl, rfl, ha, atI_nat (by simp [hk]), q _⟩⟩
    · rw [decide_eq_false z]
      exact iteF (q _)
/-! ### _law_mixed -/
abbrev s_law_mixed : Stmt := topS 28
abbrev N_law_mixed : List Str := ["cell", "k", "figure"]
abbrev P_law_mixed : List Str := ["cell", "k"]
theorem sc_law_mixed : FnScope N_law_mixed P_law_mixed (defScope s_law_mixed) := ⟨rfl, rfl, rfl, by decide +kernel, rfl, by decide +kernel, by decide +kernel⟩

def sp_law_mixed : Sp := fun vs H Q _ => ∃ c k : Int, vs = [.int c, .int k] ∧ (-2 ^ 64 < k ∧ k < 2 ^ 64) ∧ ∀ i : Int, Q (.int i) H
theorem ok_law_mixed (F : FnP K "_law_mixed" s_law_mixed f fd) (fr : Free mg) : FnOk P w K mg base (L2.CX P w) 1 f fd P_law_mixed sp_law_mixed := by
  refine F.ok sc_law_mixed (fun vs H Q E h => ?_) (fun cdv A outer s H vs Q E hr h => ⟨_, PSs.nox (pss_cons (ps_set (i := 2) sc_law_mixed.nd rfl (Or.inl rfl) (pe_op op_mod (pe_op op_add (pe_op op_add (pe_op op_add (pe_op op_mul (pv 0) pe_int) (pe_op op_mul (pe_op op_mul pe_int (pv 1)) (pv 1))) (pv 1)) pe_int) pe_int))
    (pss_cons (ps_set (i := 2) sc_law_mixed.nd rfl (Or.inl rfl) (pe_op op_mod (pe_op op_add (pe_op op_mul (pv 2) (pv 2)) pe_int) pe_int))
    (pss_one (ps_ret (pe_op op_mod (pe_op op_mul (pv 2) pe_int) pe_int))))), ?_⟩)
  · obtain ⟨c, k, rfl, _⟩ := h; rfl
  · obtain ⟨c, k, rfl, hk, q⟩ := h
    refine ⟨_, rfl, _, _, rfl, rfl, .inr (by decide), _, rfl, _, _, rfl, rfl, .inl (by decide), _, rfl, _, _, rfl, rfl, .inr hk, _, _, rfl, rfl, _, rfl, _, _, rfl, rfl, _, _, rfl, rfl, _, _, rfl, rfl, (show (0 : Int) < 2147483647 by decide), ?_⟩
    generalize hx : (c * 1103515245 + 7919 * k * k + k + 1) % 2147483647 = x
    have b1 : 0 ≤ x := hx ▸ Int.emod_nonneg _ (by decide)
    have b2 : x < 2147483647 := hx ▸ Int.emod_lt_of_pos _ (by decide)
    refine ⟨_, rfl, _, rfl, _, _, rfl, rfl, .inr ⟨by omega, by omega⟩, _, _, rfl, rfl, _, _, rfl, rfl, (show (0 : Int) < 2147483629 by decide), ?_⟩
    exact ⟨_, rfl, _, _, rfl, rfl, .inr (by decide), _, _, rfl, rfl, (show (0 : Int) < 2147483587 by decide), q _⟩
/-! ### _law_purse -/
abbrev s_law_purse : Stmt := topS 29
abbrev N_law_purse : List Str := ["script", "at", "cell"]
abbrev P_law_purse : List Str := ["script", "at"]
theorem sc_law_purse : FnScope N_law_purse P_law_purse (defScope s_law_purse) := ⟨rfl, rfl, rfl, by decide +kernel, rfl, by decide +kernel, by decide +kernel⟩

def sp_law_purse (K : PySem.W.Frag) : Sp := fun vs H Q _ => ∃ (v : V) (k : Nat), vs = [v, .int k] ∧ k ≤ 3 ∧ Script K H v ∧ ∀ p H', H p = none → StayT H H' → Purse H' p 3000 → Q (.ref p) H'
theorem ok_law_purse (F : FnP K "_law_purse" s_law_purse f fd) (fr : Free mg) (c_law_at : Cal P w K mg base "_law_at" 1 P_law_at (sp_law_at K)) : FnOk P w K mg base (L2.CX P w) 2 f fd P_law_purse (sp_law_purse K) := by
  refine F.ok sc_law_purse (fun vs H Q E h => ?_) (fun cdv A outer s H vs Q E hr h => ⟨_, PSs.nox (pss_cons (ps_set (i := 2) sc_law_purse.nd rfl (Or.inl rfl) (pe_F c_law_at (hr.mono (by omega)) (pa_cons (pv 0) (pa_cons (pv 1) pa_nil))))
    (pss_one (ps_ret (pe_lst (pa_cons (pe_op op_mod (pe_callB (call_max2 rfl) (by rfl) (fr "max" (by decide)) (by decide +kernel) (pa_cons (pe_op op_sub (pv 2) (pe_op op_pow pe_int pe_int)) (pa_cons pe_int pa_nil))) (pe_op op_powB (pe_op op_pow pe_int pe_int) pe_int)) (pa_cons (pe_op op_mod (pv 2) pe_int) (pa_cons (pe_op op_mul pe_int (pv 1)) pa_nil))))))), ?_⟩)
  · obtain ⟨v, k, rfl, _⟩ := h; rfl
  · obtain ⟨v, k, rfl, hk, hs, q⟩ := h
    refine ⟨_, rfl, _, rfl, v, k, rfl, hs, fun i => ?_⟩
    refine ⟨_, rfl, _, _, rfl, rfl, ⟨by decide, by decide, by decide⟩, _, _, rfl, rfl, _, _, rfl, _, _, rfl, rfl, ⟨by decide, by decide, by decide⟩, _, _, rfl, rfl, ?_, _, _, rfl, rfl, ?_, _, rfl, _, _, rfl, rfl, (show (0 : Int) < 2147483647 by decide), _, rfl, _, _, rfl, rfl, .inl (by decide), ?_⟩
    · exact ⟨by decide, by decide +kernel⟩
    · show (0 : Int) < _
      decide +kernel
    · refine ⟨by show 3 ≤ sizeLine; decide, fun p np => q p _ np ((StayT.refl H).new np) ⟨_, _, _, upd_same, by omega, by omega⟩⟩
/-! ### _law_draw -/
abbrev s_law_draw : Stmt := topS 30
abbrev N_law_draw : List Str := ["purse", "out_of", "drawn", "figure", "k"]
abbrev P_law_draw : List Str := ["purse", "out_of"]
theorem sc_law_draw : FnScope N_law_draw P_law_draw (defScope s_law_draw) := ⟨rfl, rfl, rfl, by decide +kernel, rfl, by decide +kernel, by decide +kernel⟩

def sp_law_draw : Sp := fun vs H Q _ => ∃ (p : Addr) (m b : Nat), vs = [.ref p, .int m] ∧ Purse H p b ∧ b ≤ 1000000 ∧ 1 ≤ m ∧ m ≤ 1000 ∧ ∀ H' (r : Nat), StayT (wo H p) H' → Purse H' p (b + 1) → r < m → Q (.int r) H'
theorem ok_law_draw (F : FnP K "_law_draw" s_law_draw f fd) (fr : Free mg) (c_law_mixed : Cal P w K mg base "_law_mixed" 1 P_law_mixed sp_law_mixed) : FnOk P w K mg base (L2.CX P w) 2 f fd P_law_draw sp_law_draw := by
  refine F.ok sc_law_draw (fun vs H Q E h => ?_) (fun cdv A outer s H vs Q E hr h => ⟨_, PSs.nox (pss_cons (ps_if (pt_cmpR op_gt (pe_ix ix_seq (pv 0) pe_int (fun _ _ => rfl)) pe_int (nomark _)) (pss_cons (ps_set (i := 2) sc_law_draw.nd rfl (Or.inl rfl) (pe_op op_mod (pe_ix ix_seq (pv 0) pe_int (fun _ _ => rfl)) (pv 1)))
    (pss_cons (ps_asg (pe_op op_fdiv (pe_ix ix_seq (pv 0) pe_int (fun _ _ => rfl)) (pv 1)) (pg_sub (pv 0) pe_int set_list))
    (pss_one (ps_ret (pv 2))))) pss_nil)
    (pss_cons (ps_set (i := 3) sc_law_draw.nd rfl (Or.inl rfl) pe_int)
    (pss_cons (ps_for PassesOwn.never rfl (pi_range1 rfl (fr "range" (by decide)) (pa_cons (pe_op op_add pe_int (pe_op op_fdiv (pe_bits (pv 1)) pe_int)) pa_nil)) (pg_name (i := 4) sc_law_draw.nd rfl (Or.inl rfl)) (pss_cons (ps_asg (pe_op op_add (pe_ix ix_seq (pv 0) pe_int (fun _ _ => rfl)) pe_int) (pg_sub (pv 0) pe_int set_list))
    (pss_one (ps_set (i := 3) sc_law_draw.nd rfl (Or.inl rfl) (pe_op op_add (pe_op op_mul (pv 3) pe_int) (pe_F c_law_mixed (hr.mono (by omega)) (pa_cons (pe_ix ix_seq (pv 0) pe_int (fun _ _ => rfl)) (pa_cons (pe_ix ix_seq (pv 0) pe_int (fun _ _ => rfl)) pa_nil))))))))
    (pss_one (ps_ret (pe_op op_mod (pv 3) (pv 1))))))), ?_⟩)
  · obtain ⟨p, m, b, rfl, _⟩ := h; rfl
  · obtain ⟨p, m, b, rfl, ⟨n, c, k, hp, hk0, hkb⟩, hb, m1, m2, q⟩ := h
    have rd : ∀ {H1 : Hp} {xs : List V} {x : V} {j : Nat} {R : VK}, H1 p = some (.lst xs) → xs[j]? = some x → R x H1 → rIx K (.ref p) (.int (j : Nat)) H1 R := fun e ej r => .inl ⟨p, _, _, _, rfl, rfl, SqL.of e, atI_nat ej, r⟩
    have st : ∀ {H1 : Hp} {o : HO}, StayT (wo H p) H1 → StayT (wo H p) (upd H1 p o) := fun s1 => s1.upd wo_same
    refine ⟨_, rfl, rd hp rfl ⟨_, _, rfl, rfl, _, rfl, ?_⟩⟩
    by_cases z : (0 : Int) < n
    · rw [decide_eq_true z]
      refine iteT ⟨_, rfl, rd hp rfl ⟨_, rfl, _, _, rfl, rfl, by show (0 : Int) < m; omega, ?_⟩⟩
      refine ⟨_, rfl, rd hp rfl ⟨_, rfl, _, _, rfl, rfl, ⟨by omega, by omega⟩, _, rfl, ⟨p, _, _, 0, rfl, rfl, hp, rfl, ?_⟩⟩⟩
      have r0 : 0 ≤ n % (m : Int) := Int.emod_nonneg _ (by omega)
      have r1 : n % (m : Int) < m := Int.emod_lt_of_pos _ (by omega)
      refine ⟨_, rfl, ?_⟩
      have e : V.int (n % (m : Int)) = V.int ((n % (m : Int)).toNat : Nat) := by rw [Int.toNat_of_nonneg r0]
      show Q (.int (n % (m : Int))) _
      rw [e]
      exact q _ _ (st (stay_wo H p)) ⟨_, _, _, upd_same, hk0, by omega⟩ (by omega)
    · rw [decide_eq_false z]
      have bits : ∀ m : Nat, m ≤ 1000 → Builtin.Int.intBits (m : Int) < 30 := by decide +kernel
      have b30 := bits m m2
      have one : (1 : Int) + ((Builtin.Int.intBits (m : Int) : Nat) : Int) / 30 = 1 := by omega
      refine iteF ⟨_, rfl, _, rfl, _, _, rfl, rfl, ⟨by decide, by decide⟩, _, _, rfl, rfl, _, rfl, ?_, ?_, ?_⟩
      · rw [one]; decide
      · rw [one]; decide
      rw [one]
      refine for_it walk_range (fun i σ H1 => ∃ (fig : Int) (v2 v4 : Option V), σ = [some (.ref p), some (.int m), v2, some (.int fig), v4] ∧ StayT (wo H p) H1 ∧ ∃ k1 : Int, H1 p = some (.lst [.int n, .int c, .int k1]) ∧ 0 ≤ k1 ∧ k1 ≤ b + i) ?h0 ?hG ?hs ?hd
      case h0 => exact ⟨0, none, none, rfl, stay_wo H p, k, hp, hk0, by omega⟩
      case hG => intros; trivial
      case hs =>
        rintro i x σ H1 H2 hi ⟨fig, v2, v4, rfl, s1, k1, hp1, h0, h1⟩ ⟨rfl, rfl⟩
        have hi' : i < 1 := hi
        refine ⟨_, rfl, rd hp1 rfl ⟨_, _, rfl, rfl, _, rfl, ⟨p, _, _, 2, rfl, rfl, hp1, rfl, ?_⟩⟩⟩
        refine ⟨_, rfl, _, _, rfl, rfl, .inr (by decide), _, rfl, rd upd_same rfl ⟨_, rfl, rd upd_same rfl ⟨_, _, rfl, ⟨by omega, by omega⟩, fun i2 => ?_⟩⟩⟩
        exact ⟨_, _, rfl, rfl, _, _, _, rfl, st s1, k1 + 1, upd_same, by omega, by omega⟩
      case hd =>
        rintro σ H1 ⟨fig, v2, v4, rfl, s1, k1, hp1, h0, h1⟩
        have r0 : 0 ≤ fig % (m : Int) := Int.emod_nonneg _ (by omega)
        have r1 : fig % (m : Int) < m := Int.emod_lt_of_pos _ (by omega)
        refine ⟨_, rfl, _, rfl, _, _, rfl, rfl, by show (0 : Int) < m; omega, ?_⟩
        have e : V.int (fig % (m : Int)) = V.int ((fig % (m : Int)).toNat : Nat) := by rw [Int.toNat_of_nonneg r0]
        show Q (.int (fig % (m : Int))) _
        rw [e]
        exact q _ _ s1 ⟨_, _, _, hp1, h0, by simpa using h1⟩ (by omega)
end
end WR
namespace WR
open PySem PySem.Spec PyProof.Rows L2
/-! ## the same rules, their fragment told from outside (within a comprehension the context is made anew) -/
variable {X : Cx} {K : PySem.W.Frag}
theorem call_len_K (hK : X.K = K := by rfl) : CallR X (.builtin "len") (fun xs H Q => ∃ a ys, xs = [V.ref a] ∧ (SqL K H a ys ∨ SqT K H a ys) ∧ Q (V.int ys.length) H) := hK ▸ call_len_seq
theorem ix_K (hK : X.K = K := by rfl) : IxR X (rIx K) := hK ▸ ix_seq
theorem sl_K (hK : X.K = K := by rfl) : SlR X (rSlA K) := hK ▸ sl_tupA
theorem inD_K (hu : X.A.units + 65 < cLine) (hK : X.K = K := by rfl) : OpR X (compareOp .In) (rInD K) := hK ▸ op_inD hu
theorem notInD_K (hu : X.A.units + 65 < cLine) (hK : X.K = K := by rfl) : OpR X (compareOp .NotIn) (rNotInD K) := hK ▸ op_notInD hu
theorem catA_K (hK : X.K = K := by rfl) : OpR X (binaryOp .Add) (rCatA K) := hK ▸ op_catA
theorem revT_K {e : Expr} {te : TE} {k : Nat} {p1 p2 p3 pos : Pos} (he : PE X e te) (hK : X.K = K := by rfl) : PE X (.Subscript e (.Slice none none (some (.UnaryOp .USub (.Constant (.int 1) k p1) p2)) p3) pos) (tRevT K te) := hK ▸ pe_revT he
theorem pop_K {o e : Expr} {to : TE} {t : TA} {apos cpos : Pos} (ho : PE X o to) (ha : PA X [e] t)
    (hb : attributeBase o "pop" X.env (eval o X.env) = eval o X.env := by rfl)
    (hf : (((backTo cpos (starEach [e] X.env)).all (fun x => !x.1)) && ((backToKw cpos (keywordEach [] X.env)).all fun x => x.1.isSome) && decide (([e].length + ([] : List Keyword).length + if ([] : List Keyword).isEmpty = true then 0 else 1) < 30)) = true := by rfl)
    (hl : (apos.endLine == cpos.line) = true := by rfl) (hs : starEach [e] X.env = (false, eval e X.env) :: starEach [] X.env := by rfl) (hp : ((backTo cpos (starEach [] X.env)).any fun x => x.1) = false := by rfl) (hK : X.K = K := by rfl) :
    PE X (.Call (.Attribute o "pop" apos) [e] [] cpos) (tBM K "list" rPopAt to t) := hK ▸ pe_bm PySem.F.plainAttrs_list PySem.F.slot_list_pop PySem.F.type_list_pop mt_popAt ho ha hb hf hl hs hp
def tTruK (K : PySem.W.Frag) (ta : TE) : TT := fun σ H Q => ta σ H fun x H' => ∃ k, TruV K x H' k ∧ Q k H'
theorem truth_K {a : Expr} {ta : TE} (ha : PE X a ta) (hn : ∀ whole : Sem Value, PySem.isTrue a X.env whole = (do
    let v ← whole
    standAt a.pos
    holding [v] (truthy v))) (hK : X.K = K := by rfl) : PT X a (tTruK K ta) := hK ▸ pt_truth ha hn
end WR
namespace WR
open PySem PySem.Spec PyProof.Rows L2
section
variable {P : Program} {w : World} {K : PySem.W.Frag} {mg : Str → Option Value} {base : Heap} {f : Addr} {fd : FuncData} {T : Addr}
theorem Purse.ne {H : Hp} {p a : Addr} {b : Nat} (h : Purse H p b) (n : H a = none) : a ≠ p := fun z => by
  obtain ⟨_, _, _, e, _⟩ := h
  rw [z, e] at n; cases n
theorem Purse.same {H H' : Hp} {p : Addr} {b : Nat} (h : Purse H p b) (e : H' p = H p) : Purse H' p b := by
  obtain ⟨n, c, k, e1, h1, h2⟩ := h
  exact ⟨n, c, k, e.trans e1, h1, h2⟩
theorem Purse.upd {H : Hp} {p a : Addr} {b : Nat} {o : HO} (h : Purse H p b) (n : a ≠ p) : Purse (L2.upd H a o) p b := h.same (upd_ne n.symm)
theorem Purse.mono {H : Hp} {p : Addr} {b b' : Nat} (h : Purse H p b) (l : b ≤ b') : Purse H p b' := by
  obtain ⟨n, c, k, e1, h1, h2⟩ := h
  exact ⟨n, c, k, e1, h1, by omega⟩
/-- what is new under a purse is new beside it -/
theorem wo_new {H : Hp} {p a : Addr} (n : H a = none) : wo H p a = none := by
  by_cases h : a = p
  · rw [h]; exact wo_same
  · rw [wo_ne h]; exact n
theorem seqIndex_nat {r n : Nat} (h : r < n) : seqIndex? (r : Int) n = some r := by
  unfold seqIndex?
  have e : ¬ ((r : Int) < 0) := by omega
  simp [e, h]
theorem tyV_lst {K : PySem.W.Frag} {a : Addr} {xs : List V} {H : Hp} (h : H a = some (.lst xs)) : tyV K "list" (.ref a) H := .inl ⟨rfl, _, SqL.of h⟩
theorem map_erase {α β : Type} (f : α → β) : ∀ (l : List α) (i : Nat), (l.map f).eraseIdx i = (l.eraseIdx i).map f
  | [], _ => rfl
  | _ :: _, 0 => rfl
  | a :: l, i + 1 => congrArg (f a :: ·) (map_erase f l i)
theorem erase_perm {α : Type} : ∀ (l : List α) (i : Nat) (h : i < l.length), (l[i] :: l.eraseIdx i).Perm l
  | [], _, h => absurd h (Nat.not_lt_zero _)
  | _ :: _, 0, _ => List.Perm.refl _
  | a :: l, i + 1, h => by
    have ih := erase_perm l i (Nat.lt_of_succ_lt_succ h)
    exact (List.Perm.swap a _ _).trans (ih.cons a)
def stock : List Str := ["a", "b", "c2", "dd", "e", "f0", "gg", "h", "i9", "longword", "k", "zz", "bar", "road", "fee", "goes", "gift", "comes", "grant"]
/-- the words that most laws draw of -/
def stock12 : List Str := ["a", "b", "c2", "dd", "e", "f0", "gg", "h", "i9", "longword", "k", "zz"]
/-! ### _law_words -/
abbrev s_law_words : Stmt := topS 31
abbrev N_law_words : List Str := ["purse", "many", "stock", "k"]
abbrev P_law_words : List Str := ["purse", "many"]
theorem sc_law_words : FnScope N_law_words P_law_words (defScope s_law_words) := ⟨rfl, rfl, rfl, by decide +kernel, rfl, by decide +kernel, by decide +kernel⟩

def sp_law_words : Sp := fun vs H Q _ => ∃ (p : Addr) (m b : Nat), vs = [.ref p, .int m] ∧ Purse H p b ∧ b ≤ 900000 ∧ m ≤ 12 ∧ ∀ H' a (ns : List Str), StayT (wo H p) H' → Purse H' p (b + m) → H a = none → H' a = some (.lst (ns.map V.str)) → ns.length = m → (∀ x ∈ ns, x ∈ stock) → ns.Nodup → Q (.ref a) H'
theorem ok_law_words (F : FnP K "_law_words" s_law_words f fd) (fr : Free mg) (c_law_draw : Cal P w K mg base "_law_draw" 2 P_law_draw sp_law_draw) : FnOk P w K mg base (L2.CX P w) 3 f fd P_law_words sp_law_words := by
  refine F.ok sc_law_words (fun vs H Q E h => ?_) (fun cdv A outer s H vs Q E hr h => ⟨_, PSs.nox (pss_cons (ps_set (i := 2) sc_law_words.nd rfl (Or.inr rfl) (pe_lst (pa_cons pe_str (pa_cons pe_str (pa_cons pe_str (pa_cons pe_str (pa_cons pe_str (pa_cons pe_str (pa_cons pe_str (pa_cons pe_str (pa_cons pe_str (pa_cons pe_str (pa_cons pe_str (pa_cons pe_str pa_nil))))))))))))))
    (pss_one (ps_ret (pe_lc (own := [("k", 3)]) (g := gName 3) (tt := tYes) rfl sc_law_words.nd (pi_range1 rfl (fr "range" (by decide)) (pa_cons (pv 1) pa_nil)) (blkOk_by (N := N_law_words) (sc := defScope s_law_words) (by decide +kernel)) (fun _ _ _ _ _ => (pg_name (i := 3) sc_law_words.nd rfl (Or.inl rfl))) (fun _ _ _ _ _ => by exact pts_nil) (fun _ _ _ _ _ => by exact (pop_K (pv 2) (pa_cons (pe_F c_law_draw (hr.mono (by omega)) (pa_cons (pv 0) (pa_cons (pe_callB call_len_K (by rfl) (fr "len" (by decide)) (by decide +kernel) (pa_cons (pv 2) pa_nil)) pa_nil))) pa_nil))))))), ?_⟩)
  · obtain ⟨p, m, b, rfl, _⟩ := h; rfl
  · obtain ⟨p, m, b, rfl, hp, hb, hm, q⟩ := h
    refine ⟨by show 12 ≤ sizeLine; decide, fun st nst => ?_⟩
    have st_p : st ≠ p := hp.ne nst
    refine ⟨_, rfl, (m : Int), rfl, by omega, by omega, fun D nD => ?_⟩
    have D_st : D ≠ st := fun z => by rw [z, upd_same] at nD; cases nD
    have nD0 : H D = none := by rw [upd_ne D_st] at nD; exact nD
    have D_p : D ≠ p := hp.ne nD0
    refine lc_it (walk_range (lo := 0) (n := m)) (fun i H1 => ∃ acc rest : List Str, H1 D = some (.lst (acc.map V.str)) ∧ H1 st = some (.lst (rest.map V.str)) ∧ acc.length = i ∧ rest.length = 12 - i ∧ (∀ x ∈ acc, x ∈ stock) ∧ (∀ x ∈ rest, x ∈ stock) ∧ StayT (wo H p) H1 ∧ Purse H1 p (b + i) ∧ (acc ++ rest).Nodup) ?h0 ?hG ?hs ?hd
    case h0 => exact ⟨[], stock12, upd_same, by rw [upd_ne D_st.symm, upd_same]; rfl, rfl, rfl, (fun _ z => by cases z), (by decide +kernel), ((stay_wo H p).upd (wo_new nst)).upd (wo_new nD0), (hp.upd st_p).upd D_p, (by decide +kernel)⟩
    case hG => intros; trivial
    case hs =>
      rintro i x H1 H2 hi ⟨acc, rest, hD, hst, la, lr, ina, inr, s1, hp1, nd⟩ ⟨rfl, rfl⟩
      refine ⟨rfl, yes_go ?_⟩
      refine ⟨_, rfl, tyV_lst hst, _, rfl, _, rfl, _, _, rfl, .inl (SqL.of hst), p, _, b + i, rfl, hp1, by omega, by rw [List.length_map]; omega, by rw [List.length_map]; omega, fun H3 r s3 hp3 hr3 => ?_⟩
      rw [List.length_map] at hr3
      have hst3 : H3 st = some (.lst (rest.map V.str)) := s3.same _ _ (by rw [wo_ne st_p]; exact hst) fun _ z => nomatch z
      have hD3 : H3 D = some (.lst (acc.map V.str)) := s3.same _ _ (by rw [wo_ne D_p]; exact hD) fun _ z => nomatch z
      refine ⟨st, _, (r : Int), r, .str rest[r], rfl, rfl, hst3, by omega, by omega, by rw [List.length_map]; exact seqIndex_nat hr3, by simp [hr3], ?_⟩
      refine ⟨acc.map V.str, by rw [upd_ne D_st]; exact hD3, by rw [List.length_map]; exact Nat.lt_of_le_of_lt (show acc.length ≤ 12 by omega) (by decide), ?_⟩
      refine ⟨acc ++ [rest[r]], rest.eraseIdx r, by simp [upd_same], ?_, by simp [la], ?_, ?_, ?_, ?_, ?_, ?_⟩
      · rw [upd_ne D_st.symm, upd_same, map_erase]
      · rw [List.length_eraseIdx, if_pos hr3]; omega
      · intro y hy
        rcases List.mem_append.mp hy with h | h
        · exact ina y h
        · simp at h; subst h; exact inr _ (List.getElem_mem _)
      · intro y hy
        exact inr y (List.mem_of_mem_eraseIdx hy)
      · exact ((s1.transP s3).upd (wo_new nst)).upd (wo_new nD0)
      · exact ((hp3.upd st_p).upd D_p).mono (by omega)
      · rw [List.append_assoc]
        exact (List.Perm.append_left acc (erase_perm rest r hr3)).nodup_iff.mpr nd
    case hd =>
      rintro H1 ⟨acc, rest, hD, hst, la, lr, ina, inr, s1, hp1, nd⟩
      exact q H1 D acc s1 hp1 nD0 hD la ina (List.nodup_append.mp nd).1
end
end WR
namespace WR
open PySem PySem.Spec PyProof.Rows L2
/-! ## H beside some addresses that change -/
def wl (ms : List Addr) (H : Hp) : Hp := fun b => if b ∈ ms then none else H b
theorem wl_in {ms : List Addr} {H : Hp} {a : Addr} (h : a ∈ ms) : wl ms H a = none := if_pos h
theorem wl_out {ms : List Addr} {H : Hp} {a : Addr} (h : a ∉ ms) : wl ms H a = H a := if_neg h
theorem wl_some {ms : List Addr} {H : Hp} {a : Addr} {o : HO} (e : wl ms H a = some o) : a ∉ ms ∧ H a = some o := by
  by_cases h : a ∈ ms
  · rw [wl_in h] at e; cases e
  · rw [wl_out h] at e; exact ⟨h, e⟩
theorem wl_new {ms : List Addr} {H : Hp} {a : Addr} (n : H a = none) : wl ms H a = none := by
  by_cases h : a ∈ ms
  · exact wl_in h
  · rw [wl_out h]; exact n
theorem wl_upd_in {ms : List Addr} {H : Hp} {a : Addr} {o : HO} (h : a ∈ ms) : wl ms (upd H a o) = wl ms H := by
  funext b
  by_cases hb : b ∈ ms
  · rw [wl_in hb, wl_in hb]
  · rw [wl_out hb, wl_out hb, upd_ne fun z => hb (by rw [z]; exact h)]
theorem wl_upd_out {ms : List Addr} {H : Hp} {a : Addr} {o : HO} (h : a ∉ ms) : wl ms (upd H a o) = upd (wl ms H) a o := by
  funext b
  by_cases hb : b = a
  · rw [hb, wl_out h, upd_same, upd_same]
  · by_cases hm : b ∈ ms
    · rw [wl_in hm, upd_ne hb, wl_in hm]
    · rw [wl_out hm, upd_ne hb, upd_ne hb, wl_out hm]
theorem stay_wl (ms : List Addr) (H : Hp) : StayT (wl ms H) H := ⟨fun b o e _ => (wl_some e).2, fun b ps e => ⟨ps, (wl_some e).2, id⟩⟩
theorem wl_draw {ms : List Addr} {H H' : Hp} {p : Addr} (s : StayT (wo H p) H') (hp : p ∈ ms) : StayT (wl ms H) (wl ms H') := by
  refine ⟨fun b o e n => ?_, fun b ps e => ?_⟩
  · obtain ⟨h1, h2⟩ := wl_some e
    rw [wl_out h1]
    exact s.same _ _ (by rw [wo_ne fun z => h1 (by rw [z]; exact hp)]; exact h2) n
  · obtain ⟨h1, h2⟩ := wl_some e
    rw [wl_out h1]
    exact s.tab _ _ (by rw [wo_ne fun z => h1 (by rw [z]; exact hp)]; exact h2)
theorem wl_stay {ms : List Addr} {H H' : Hp} (s : StayT H H') : StayT (wl ms H) (wl ms H') := by
  refine ⟨fun b o e n => ?_, fun b ps e => ?_⟩
  · obtain ⟨h1, h2⟩ := wl_some e
    rw [wl_out h1]
    exact s.same _ _ h2 n
  · obtain ⟨h1, h2⟩ := wl_some e
    rw [wl_out h1]
    exact s.tab _ _ h2
theorem wl_more {ms : List Addr} {H : Hp} {a : Addr} (n : H a = none) : StayT (wl ms H) (wl (a :: ms) H) := by
  have k : ∀ b, b ∉ ms → H b ≠ none → b ∉ a :: ms := fun b h1 h2 h3 => by
    rcases List.mem_cons.mp h3 with z | z
    · rw [z] at h2; exact h2 n
    · exact h1 z
  refine ⟨fun b o e _ => ?_, fun b ps e => ⟨ps, ?_, id⟩⟩
  · obtain ⟨h1, h2⟩ := wl_some e
    rw [wl_out (k b h1 (by rw [h2]; simp))]; exact h2
  · obtain ⟨h1, h2⟩ := wl_some e
    rw [wl_out (k b h1 (by rw [h2]; simp))]; exact h2
/-- what is new -/
theorem wl_alloc {ms : List Addr} {H : Hp} {a : Addr} {o : HO} (n : H a = none) : StayT (wl ms H) (wl ms (upd H a o)) := by
  by_cases h : a ∈ ms
  · rw [wl_upd_in h]; exact StayT.refl _
  · rw [wl_upd_out h]; exact (StayT.refl _).new (wl_new n)
/-- a tuple made of data -/
theorem dv_made {ms : List Addr} {H : Hp} {a : Addr} {vs : List V} {ds : List PyData} (n : H a = none) (h : a ∉ ms) (d : DVs (wl ms H) vs ds) (l : ds.length ≤ 1000) : DV (wl ms (upd H a (.tup vs))) (.ref a) (.tuple ds) := by
  refine .tup ?_ (d.stay (wl_alloc n)) l
  rw [wl_upd_out h, upd_same]
theorem dv_madeL {ms : List Addr} {H : Hp} {a : Addr} {vs : List V} {ds : List PyData} (n : H a = none) (h : a ∉ ms) (d : DVs (wl ms H) vs ds) (l : ds.length ≤ 1000) : DV (wl ms (upd H a (.lst vs))) (.ref a) (.list ds) := by
  refine .lst ?_ (d.stay (wl_alloc n)) l
  rw [wl_upd_out h, upd_same]
theorem DV.out {ms : List Addr} {H : Hp} {v : V} {d : PyData} (h : DV (wl ms H) v d) : DV H v d := h.stay (stay_wl ms H)
theorem DVs.out {ms : List Addr} {H : Hp} {v : List V} {d : List PyData} (h : DVs (wl ms H) v d) : DVs H v d := h.stay (stay_wl ms H)
/-- what a draw leaves -/
theorem drawn_keeps {H H' : Hp} {p a : Addr} {xs : List V} (s : StayT (wo H p) H') (n : a ≠ p) (e : H a = some (.lst xs)) : H' a = some (.lst xs) := s.same _ _ (by rw [wo_ne n]; exact e) fun _ z => nomatch z
theorem units1 {k : Nat} {A : Around} (h : Room k A) : A.units + 65 < cLine := by have := h.un; omega
theorem DVs.snoc {H : Hp} {vs : List V} {ds : List PyData} {v : V} {d : PyData} (h : DVs H vs ds) (e : DV H v d) : DVs H (vs ++ [v]) (ds ++ [d]) := h.append (.one e)
theorem all_snoc {α : Type} {q : α → Prop} {l : List α} {x : α} (h : ∀ y ∈ l, q y) (hx : q x) : ∀ y ∈ l ++ [x], q y := fun y hy => by
  rcases List.mem_append.mp hy with z | z
  · exact h y z
  · simp at z; subst z; exact hx
theorem wl_less {ms : List Addr} {H : Hp} {a : Addr} : StayT (wl (a :: ms) H) (wl ms H) := by
  refine ⟨fun b o e _ => ?_, fun b ps e => ⟨ps, ?_, id⟩⟩
  · obtain ⟨h1, h2⟩ := wl_some e
    rw [wl_out fun z => h1 (List.mem_cons_of_mem _ z)]; exact h2
  · obtain ⟨h1, h2⟩ := wl_some e
    rw [wl_out fun z => h1 (List.mem_cons_of_mem _ z)]; exact h2
end WR
namespace WR
open PySem PySem.Spec PyProof.Rows L2
theorem stock_ok : ∀ x ∈ stock, x.length ≤ 8 ∧ PySem.PyData.strOk x = true := by decide +kernel
theorem dv_word {H : Hp} {x : Str} (h : x ∈ stock) : DV H (.str x) (.str x) := .str (Nat.le_trans (stock_ok x h).1 (by decide)) (stock_ok x h).2
theorem dvs_words {H : Hp} : ∀ {l : List Str}, (∀ x ∈ l, x ∈ stock) → DVs H (l.map V.str) (l.map PyData.str)
  | [], _ => .nil
  | a :: l, h => .cons (dv_word (h a List.mem_cons_self)) (dvs_words fun x hx => h x (List.mem_cons_of_mem _ hx))
def PairD (d : PyData) : Prop := ∃ x y, x ∈ stock ∧ y ∈ stock ∧ d = .tuple [.str x, .str y]
def coins : List Nat := [0, 1, 2, 3, 4, 5, 1000000]
def HomeD (d : PyData) : Prop := ∃ x, x ∈ stock ∧ ∃ i : Nat, i ∈ coins ∧ d = .tuple [.str x, .int i]
def TownD (d : PyData) : Prop := ∃ hs rs, d = .tuple [.tuple hs, .tuple rs] ∧ hs.length ≤ 8 ∧ rs.length ≤ 20 ∧ (∀ e ∈ hs, HomeD e) ∧ ∀ e ∈ rs, PairD e
def StandD (d : PyData) : Prop := ∃ l, d = .tuple l ∧ l.length ≤ 8 ∧ ∀ e ∈ l, HomeD e ∨ e = .tuple []
theorem pick_int {H : Hp} {a : Addr} {l : List Int} {r : Nat} {R : VK} (e : H a = some (.lst (l.map V.int))) (hl : l.length ≤ 1000) (hr : r < l.length) (q : ∀ i ∈ l, R (.int i) H) : rItemD (.ref a) (.int (r : Int)) H R := by
  have d : ∀ l : List Int, DVs H (l.map V.int) (l.map PyData.int) := fun l => by
    induction l with
    | nil => exact .nil
    | cons a l ih => exact .cons (.int a) ih
  refine ⟨.list (l.map PyData.int), .int l[r], r, .lst e (d l) (by rw [List.length_map]; exact hl), rfl, by simp [itemD, hr], fun v hv => ?_⟩
  cases dv_int hv
  exact q _ (List.getElem_mem _)
theorem pick_any {H : Hp} {a : Addr} {xs : List V} {ds : List PyData} {r : Nat} {R : VK} (e : H a = some (.lst xs)) (d : DVs H xs ds) (hl : ds.length ≤ 1000) (hr : r < ds.length) (q : ∀ v d, d ∈ ds → DV H v d → R v H) : rItemD (.ref a) (.int (r : Int)) H R :=
  ⟨.list ds, ds[r], r, .lst e d hl, rfl, by simp [itemD, hr], fun v hv => q v _ (List.getElem_mem _) hv⟩
theorem pick_word {H : Hp} {a : Addr} {l : List Str} {r : Nat} {R : VK} (e : H a = some (.lst (l.map V.str))) (hl : l.length ≤ 1000) (hr : r < l.length) (hs : ∀ x ∈ l, x ∈ stock) (q : ∀ x ∈ l, R (.str x) H) : rItemD (.ref a) (.int (r : Int)) H R := by
  refine ⟨.list (l.map PyData.str), .str l[r], r, .lst e (dvs_words hs) (by rw [List.length_map]; exact hl), rfl, by simp [itemD, hr], fun v hv => ?_⟩
  cases dv_str hv
  exact q _ (List.getElem_mem _)
theorem pick_wordE {H : Hp} {a : Addr} {l : List Str} {r : Nat} {y : V} {R : VK} (ey : y = .int (r : Int)) (e : H a = some (.lst (l.map V.str))) (hl : l.length ≤ 1000) (hr : r < l.length) (hs : ∀ x ∈ l, x ∈ stock) (q : ∀ x ∈ l, R (.str x) H) : rItemD (.ref a) y H R := by
  subst ey
  exact pick_word e hl hr hs q
end WR
namespace WR
open PySem PySem.Spec PyProof.Rows L2
/-! ## plain data: no dict, not deep, its text not long -/
structure Pl (n m : Nat) (d : PyData) : Prop where
  hd : d.hasDict = false
  dp : d.depth ≤ n
  sh : d.showable = true
  le : d.shown.length ≤ m
theorem pl_all {n m : Nat} : ∀ {l : List PyData}, (∀ e ∈ l, Pl n m e) → PyData.hasDictAll l = false ∧ PyData.depthAll l ≤ n ∧ PyData.showableAll l = true ∧ (∀ t ∈ PyData.shownAll l, t.length ≤ m) ∧ (PyData.shownAll l).length = l.length
  | [], _ => ⟨rfl, Nat.zero_le _, rfl, (fun _ z => by cases z), rfl⟩
  | a :: l, h => by
    obtain ⟨h1, h2, h3, h4, h5⟩ := pl_all fun e he => h e (List.mem_cons_of_mem _ he)
    have ha := h a List.mem_cons_self
    refine ⟨?_, ?_, ?_, ?_, ?_⟩
    · simp only [PyData.hasDictAll, ha.hd, h1, Bool.or_self]
    · simp only [PyData.depthAll]; exact Nat.max_le.mpr ⟨ha.dp, h2⟩
    · simp only [PyData.showableAll, ha.sh, h3, Bool.and_self]
    · intro t ht
      simp only [PyData.shownAll, List.mem_cons] at ht
      rcases ht with rfl | ht
      · exact ha.le
      · exact h4 t ht
    · simp only [PyData.shownAll, List.length_cons, h5]
theorem join_le {m : Nat} : ∀ {ts : List Str}, (∀ t ∈ ts, t.length ≤ m) → ((Str.ofString ", ").join ts).length ≤ ts.length * (m + 2)
  | [], _ => Nat.zero_le _
  | [a], h => by
    have := h a List.mem_cons_self
    simp only [Str.join, List.length_cons, List.length_nil]
    omega
  | a :: b :: r, h => by
    have ha := h a List.mem_cons_self
    have hr := join_le (ts := b :: r) fun t ht => h t (List.mem_cons_of_mem _ ht)
    have e : (Str.ofString ", ").join (a :: b :: r) = a ++ Str.ofString ", " ++ (Str.ofString ", ").join (b :: r) := rfl
    have e2 : (Str.ofString ", ").length = 2 := by decide +kernel
    rw [e, Str.length_append, Str.length_append, e2]
    have e3 : (a :: b :: r).length = (b :: r).length + 1 := rfl
    rw [e3, Nat.succ_mul]
    omega
theorem pl_tuple {n m c : Nat} {l : List PyData} (h : ∀ e ∈ l, Pl n m e) (hl : l.length ≤ c) : Pl (n + 1) (c * (m + 2) + 3) (.tuple l) := by
  obtain ⟨h1, h2, h3, h4, h5⟩ := pl_all h
  refine ⟨by simp only [PyData.hasDict, h1], by simp only [PyData.depth]; omega, by simp only [PyData.showable, h3], ?_⟩
  have j := join_le h4
  have k : (PyData.shownAll l).length * (m + 2) ≤ c * (m + 2) := Nat.mul_le_mul_right _ (by omega)
  simp only [PyData.shown, tupleText]
  rw [Str.length_append, Str.length_append]
  have e1 : (Str.ofString "(").length = 1 := by decide +kernel
  have e2 : (Str.ofString (if ((PyData.shownAll l).length == 1) = true then ",)" else ")")).length ≤ 2 := by
    split <;> decide +kernel
  omega
theorem pl_list {n m c : Nat} {l : List PyData} (h : ∀ e ∈ l, Pl n m e) (hl : l.length ≤ c) : (PyData.list l).hasDict = false ∧ (PyData.list l).depth ≤ n + 1 ∧ (PyData.list l).showable = true := by
  obtain ⟨h1, h2, h3, h4, h5⟩ := pl_all h
  exact ⟨by simp only [PyData.hasDict, h1], by simp only [PyData.depth]; omega, by simp only [PyData.showable, h3]⟩
theorem pl_word {x : Str} (h : x ∈ stock) : Pl 0 20 (.str x) := by
  refine ⟨rfl, Nat.le_refl _, rfl, ?_⟩
  have : ∀ x ∈ stock, (reprText x).length ≤ 20 := by decide +kernel
  exact this x h
theorem pl_coin {i : Nat} (h : i ∈ coins) : Pl 0 20 (.int (i : Int)) := by
  have : ∀ i ∈ coins, (((i : Int).natAbs.log2 < 1920) : Prop) ∧ (PyData.int (i : Int)).shown.length ≤ 20 := by decide +kernel
  obtain ⟨h1, h2⟩ := this i h
  exact ⟨rfl, Nat.le_refl _, by simp only [PyData.showable]; exact decide_eq_true h1, h2⟩
theorem pl_pair {d : PyData} (h : PairD d) : Pl 1 50 d := by
  obtain ⟨x, y, hx, hy, rfl⟩ := h
  have := pl_tuple (n := 0) (m := 20) (c := 2) (l := [.str x, .str y]) (fun e he => by
    rcases List.mem_cons.mp he with rfl | he
    · exact pl_word hx
    · rcases List.mem_cons.mp he with rfl | he
      · exact pl_word hy
      · cases he) (Nat.le_refl _)
  exact ⟨this.hd, this.dp, this.sh, Nat.le_trans this.le (by decide)⟩
theorem pl_home {d : PyData} (h : HomeD d) : Pl 1 50 d := by
  obtain ⟨x, hx, i, hi, rfl⟩ := h
  have := pl_tuple (n := 0) (m := 20) (c := 2) (l := [.str x, .int i]) (fun e he => by
    rcases List.mem_cons.mp he with rfl | he
    · exact pl_word hx
    · rcases List.mem_cons.mp he with rfl | he
      · exact pl_coin hi
      · cases he) (Nat.le_refl _)
  exact ⟨this.hd, this.dp, this.sh, Nat.le_trans this.le (by decide)⟩
theorem Pl.mono {n m n' m' : Nat} {d : PyData} (h : Pl n m d) (a : n ≤ n') (b : m ≤ m') : Pl n' m' d := ⟨h.hd, Nat.le_trans h.dp a, h.sh, Nat.le_trans h.le b⟩
theorem pl_town {d : PyData} (h : TownD d) : Pl 3 4000 d := by
  obtain ⟨hs, rs, rfl, h1, h2, h3, h4⟩ := h
  have a := (pl_tuple (c := 20) (fun e he => pl_home (h3 e he)) (by omega)).mono (n' := 2) (m' := 1200) (by decide) (by decide)
  have b := (pl_tuple (c := 20) (fun e he => pl_pair (h4 e he)) h2).mono (n' := 2) (m' := 1200) (by decide) (by decide)
  refine (pl_tuple (n := 2) (m := 1200) (c := 2) (l := [.tuple hs, .tuple rs]) (fun e he => ?_) (Nat.le_refl _)).mono (by decide) (by decide)
  rcases List.mem_cons.mp he with rfl | he
  · exact a
  · rcases List.mem_cons.mp he with rfl | he
    · exact b
    · cases he
theorem pl_stand {d : PyData} (h : StandD d) : Pl 3 4000 d := by
  obtain ⟨l, rfl, h1, h2⟩ := h
  refine (pl_tuple (n := 1) (m := 50) (c := 20) (fun e he => ?_) (by omega)).mono (by decide) (by decide)
  rcases h2 e he with z | rfl
  · exact pl_home z
  · exact (pl_tuple (n := 0) (m := 0) (c := 0) (l := []) (fun _ z => by cases z) (Nat.le_refl _)).mono (by decide) (by decide)
theorem dp_pair {K : PySem.W.Frag} {H : Hp} {v : V} {d : PyData} (h : DV H v d) (p : PairD d) : Dp K H v d ∧ SeqAt.shaped d = true := ⟨h.dp (pl_pair p).hd, shaped_D h (pl_pair p).hd (Nat.le_trans (pl_pair p).dp (by decide))⟩
theorem dp_pairs {K : PySem.W.Frag} {H : Hp} {a : Addr} {xs : List V} {l : List PyData} (e : H a = some (.lst xs)) (h : DVs H xs l) (p : ∀ d ∈ l, PairD d) (hl : l.length ≤ 1000) : Dp K H (.ref a) (.list l) ∧ SeqAt.shaped (.list l) = true := by
  obtain ⟨h1, h2, _⟩ := pl_list (fun e he => pl_pair (p e he)) (Nat.le_refl l.length)
  have dv : DV H (.ref a) (.list l) := .lst e h hl
  exact ⟨dv.dp h1, shaped_D dv h1 (Nat.le_trans h2 (by decide))⟩
theorem iteB {b : Bool} {A B : Prop} (h1 : A) (h2 : B) : if b = true then A else B := by
  cases b
  · exact iteF h2
  · exact iteT h1
theorem pair_wl {G : Hp} {v : V} {e : PyData} {ms : List Addr} (h : DV G v e) (p : PairD e) (hm : ∀ m ∈ ms, ∃ xs, G m = some (.lst xs)) : DV (wl ms G) v e := by
  obtain ⟨x, y, hx, hy, rfl⟩ := p
  obtain ⟨a, xs, rfl, ha, hxs, hl⟩ := dv_tup h
  cases hxs with
  | @cons va xs1 d1 ds1 h1 t0 =>
  cases t0 with
  | @cons vb xs2 d2 ds2 h2 t1 =>
  cases t1
  cases dv_str h1
  cases dv_str h2
  refine .tup ?_ (.two (dv_word hx) (dv_word hy)) hl
  rw [wl_out fun z => ?_]
  · exact ha
  · obtain ⟨xs, e⟩ := hm a z
    rw [ha] at e; cases e
theorem stand_wl {G : Hp} {v : V} {e : PyData} {ms : List Addr} (h : DV G v e) (p : HomeD e ∨ e = .tuple []) (hm : ∀ m ∈ ms, ∃ xs, G m = some (.lst xs)) : DV (wl ms G) v e := by
  rcases p with ⟨x, hx, i, hi, rfl⟩ | rfl
  · obtain ⟨a, xs, rfl, ha, hxs, hl⟩ := dv_tup h
    cases hxs with
    | @cons va xs1 d1 ds1 h1 t0 =>
    cases t0 with
    | @cons vb xs2 d2 ds2 h2 t1 =>
    cases t1
    cases dv_str h1
    cases dv_int h2
    refine .tup ?_ (.two (dv_word hx) (.int _)) hl
    rw [wl_out fun z => ?_]
    · exact ha
    · obtain ⟨xs, e⟩ := hm a z
      rw [ha] at e; cases e
  · obtain ⟨a, xs, rfl, ha, hxs, hl⟩ := dv_tup h
    cases hxs
    refine .tup ?_ .nil hl
    rw [wl_out fun z => ?_]
    · exact ha
    · obtain ⟨xs, e⟩ := hm a z
      rw [ha] at e; cases e
end WR
namespace WR
open PySem PySem.Spec PyProof.Rows L2
open PySem.SeqAt
/-! ## xs == [], xs != [], t != (), whatever stands in them -/
def rEqL (neg : Bool) : R2 := fun x y H Q => ∃ (a b : Addr) (xs : List V), x = .ref a ∧ y = .ref b ∧ H a = some (.lst xs) ∧ H b = some (.lst []) ∧ Q (.bl (if neg then !xs.isEmpty else xs.isEmpty)) H
theorem op_eqL {X : Cx} (hu : X.A.units < cLine) : OpR X (compareOp .Eq) (rEqL false) := by
  intro pins s σ H x y v u Q I rx ry h
  obtain ⟨a, b, xs, rfl, rfl, ha, hb, q⟩ := h
  cases (show v = Value.ref a from rx)
  cases (show u = Value.ref b from ry)
  obtain ⟨its, rv, ⟨o, n, ho, hc, _, hdat⟩, _⟩ := I.list (SqL.of ha)
  obtain ⟨its2, rv2, ⟨o2, n2, ho2, hc2, _, hdat2⟩, _⟩ := I.list (SqL.of hb)
  cases rv2
  have la : s.heap.IsList a its.toArray := ⟨o, ho, hc, n, hdat⟩
  have lb : s.heap.IsList b #[] := ⟨o2, ho2, hc2, n2, hdat2⟩
  cases rv with
  | nil => exact (RcAt.lists (e := fun _ => true) la lb rfl hu (fun j h1 _ => absurd h1 (by simp))) X.prog X.w X.xe _ ⟨.bl true, H, I, rfl, q⟩
  | cons _ _ => exact (RcAt.lists_lengths la lb (by simp) hu) X.prog X.w X.xe _ ⟨.bl false, H, I, rfl, q⟩
theorem op_neL {X : Cx} (hu : X.A.units < cLine) : OpR X (compareOp .NotEq) (rEqL true) := by
  intro pins s σ H x y v u Q I rx ry h
  obtain ⟨a, b, xs, rfl, rfl, ha, hb, q⟩ := h
  cases (show v = Value.ref a from rx)
  cases (show u = Value.ref b from ry)
  obtain ⟨its, rv, ⟨o, n, ho, hc, _, hdat⟩, _⟩ := I.list (SqL.of ha)
  obtain ⟨its2, rv2, ⟨o2, n2, ho2, hc2, _, hdat2⟩, _⟩ := I.list (SqL.of hb)
  cases rv2
  have la : s.heap.IsList a its.toArray := ⟨o, ho, hc, n, hdat⟩
  have lb : s.heap.IsList b #[] := ⟨o2, ho2, hc2, n2, hdat2⟩
  cases rv with
  | nil => exact (RcNeAt.lists (e := fun _ => true) la lb rfl hu (fun j h1 _ => absurd h1 (by simp))) X.prog X.w X.xe _ ⟨.bl false, H, I, rfl, q⟩
  | cons _ _ => exact (RcNeAt.lists_lengths la lb (by simp) hu) X.prog X.w X.xe _ ⟨.bl true, H, I, rfl, q⟩
def rNeU : R2 := fun x y H Q => ∃ (a b : Addr) (xs : List V), x = .ref a ∧ y = .ref b ∧ H a = some (.tup xs) ∧ H b = some (.tup []) ∧ Q (.bl (!xs.isEmpty)) H
theorem op_neU {X : Cx} (hu : X.A.units < cLine) : OpR X (compareOp .NotEq) rNeU := by
  intro pins s σ H x y v u Q I rx ry h
  obtain ⟨a, b, xs, rfl, rfl, ha, hb, q⟩ := h
  cases (show v = Value.ref a from rx)
  cases (show u = Value.ref b from ry)
  obtain ⟨its, rv, pt, _⟩ := I.tuple (SqT.of ha)
  obtain ⟨its2, rv2, pt2, _⟩ := I.tuple (SqT.of hb)
  cases rv2
  have r := RcNeAt.tuples (e := fun _ => true) pt pt2 hu (fun j _ h2 => absurd h2 (by simp))
  cases rv with
  | nil => exact r X.prog X.w X.xe _ ⟨.bl false, H, I, rfl, q⟩
  | cons _ _ => exact r X.prog X.w X.xe _ ⟨.bl true, H, I, rfl, q⟩
end WR
namespace WR
open PySem PySem.Spec PyProof.Rows L2
/-! ## [x for x in t if not ..]: is it empty? -/
theorem wipe_one (σ : L2.St) (j : Nat) (o : Option V) : wipe (σ.set j o) [j] = wipe σ [j] := by
  show (σ.set j o).set j none = σ.set j none
  rw [List.set_set]
theorem lc_sift {J : It} {n : Nat} {G : Hp → Prop} {xs : List V} (wk : L2.Walk J n G (YAt xs)) {tt : TT} {j : Nat} {σ : L2.St} {H : Hp} {D : Addr} {Qd : Hp → Prop} (pb : Nat → Bool) (nD : H D = none) (jl : j < σ.length) (hn : n ≤ 1000)
    (hG : ∀ H1, StayT H H1 → G H1) (ht : ∀ i x H1, i < n → xs[i]? = some x → StayT H H1 → ∀ R : Bool → Hp → Prop, R (!pb i) H1 → tt ((wipe σ [j]).set j (some x)) H1 R)
    (hd : ∀ H1 vs, StayT H H1 → H1 D = some (.lst vs) → vs.isEmpty = (List.range n).all pb → Qd H1) :
    ∃ W : Nat → Nat → Hp → Prop, (∃ m, W 0 m (upd H D (.lst []))) ∧ ∀ i m H, W i m H → J.stop i H ∧ Qd H ∨ J.go i H ∧ ∃ Nx : Hp → Prop, (∀ H', Nx H' → ∃ m', m' < m ∧ W (i + 1) m' H') ∧
      ∀ x H', J.yld i H x H' → gName j x (wipe σ [j]) H' fun σ2 H2 => wipe σ2 [j] = wipe σ [j] ∧ tt σ2 H2 fun b H3 => if b = true then tVar j σ2 H3 fun y H4 => ∃ acc, H4 D = some (.lst acc) ∧ acc.length < sizeLine ∧ Nx (upd H4 D (.lst (acc ++ [y]))) else Nx H3 := by
  refine lc_it (g := gName j) (te := tVar j) (vs := [j]) wk (fun i H1 => StayT H H1 ∧ ∃ vs : List V, H1 D = some (.lst vs) ∧ vs.length ≤ i ∧ vs.isEmpty = (List.range i).all pb) ?h0 ?hG ?hs ?hd
  case h0 => exact ⟨(StayT.refl H).new nD, [], upd_same, Nat.le_refl _, rfl⟩
  case hG => exact fun i H1 _ h => hG H1 h.1
  case hs =>
    rintro i x _ H1 hi ⟨s1, vs, hD, hl, hb⟩ ⟨rfl, hx⟩
    have e : wipe ((wipe σ [j]).set j (some x)) [j] = wipe σ [j] := by rw [wipe_one]; show (σ.set j none).set j none = _; rw [List.set_set]; rfl
    refine ⟨e, ht i x H1 hi hx s1 _ ?_⟩
    have r : (List.range (i + 1)).all pb = ((List.range i).all pb && pb i) := by rw [List.range_succ, List.all_append]; simp
    cases ep : pb i with
    | true =>
      refine iteF ⟨s1, vs, hD, by omega, ?_⟩
      rw [r, ← hb, ep, Bool.and_true]
    | false =>
      refine iteT ⟨x, ?_, vs, hD, Nat.lt_of_le_of_lt (show vs.length ≤ 1000 by omega) (by decide), s1.upd nD, vs ++ [x], upd_same, by simp; omega, ?_⟩
      · have l : j < (wipe σ [j]).length := by show j < (σ.set j none).length; rw [List.length_set]; exact jl
        exact List.getElem?_set_self l
      · rw [r, ep, Bool.and_false]
        cases vs <;> rfl
  case hd =>
    rintro H1 ⟨s1, vs, hD, hl, hb⟩
    exact hd H1 vs s1 hD hb
/-- the same, where the test may leave more in the heap -/
theorem lc_sift2 {J : It} {n : Nat} {G : Hp → Prop} {xs : List V} (wk : L2.Walk J n G (YAt xs)) {tt : TT} {j : Nat} {σ : L2.St} {H : Hp} {D : Addr} {Qd : Hp → Prop} (nD : H D = none) (jl : j < σ.length) (hn : n ≤ 1000)
    (hG : ∀ H1, StayT H H1 → G H1) (ht : ∀ i x H1, i < n → xs[i]? = some x → StayT H H1 → ∀ R : Bool → Hp → Prop, (∀ H2, StayT H1 H2 → R false H2) → tt ((wipe σ [j]).set j (some x)) H1 R)
    (hd : ∀ H1, StayT H H1 → H1 D = some (.lst []) → Qd H1) :
    ∃ W : Nat → Nat → Hp → Prop, (∃ m, W 0 m (upd H D (.lst []))) ∧ ∀ i m H, W i m H → J.stop i H ∧ Qd H ∨ J.go i H ∧ ∃ Nx : Hp → Prop, (∀ H', Nx H' → ∃ m', m' < m ∧ W (i + 1) m' H') ∧
      ∀ x H', J.yld i H x H' → gName j x (wipe σ [j]) H' fun σ2 H2 => wipe σ2 [j] = wipe σ [j] ∧ tt σ2 H2 fun b H3 => if b = true then tVar j σ2 H3 fun y H4 => ∃ acc, H4 D = some (.lst acc) ∧ acc.length < sizeLine ∧ Nx (upd H4 D (.lst (acc ++ [y]))) else Nx H3 := by
  refine lc_it (g := gName j) (te := tVar j) (vs := [j]) wk (fun i H1 => StayT H H1 ∧ H1 D = some (.lst [])) ?h0 ?hG ?hs ?hd
  case h0 => exact ⟨(StayT.refl H).new nD, upd_same⟩
  case hG => exact fun i H1 _ h => hG H1 h.1
  case hs =>
    rintro i x _ H1 hi ⟨s1, hD⟩ ⟨rfl, hx⟩
    have e : wipe ((wipe σ [j]).set j (some x)) [j] = wipe σ [j] := by rw [wipe_one]; show (σ.set j none).set j none = _; rw [List.set_set]; rfl
    exact ⟨e, ht i x H1 hi hx s1 _ fun H2 s2 => iteF ⟨s1.trans s2, s2.same _ _ hD fun _ z => nomatch z⟩⟩
  case hd => exact fun H1 h => hd H1 h.1 h.2
theorem walk_rangeAt {lo : Int} {n : Nat} : L2.Walk (Itr lo n) n (fun _ => True) (YAt ((List.range n).map fun i => V.int (lo + (i : Nat)))) := by
  have w := walk_range (lo := lo) (n := n)
  refine ⟨w.goes, w.stops, fun i H x H' hi g y => ?_⟩
  obtain ⟨h1, h2⟩ := w.yields i H x H' hi g y
  refine ⟨h1, ?_⟩
  rw [h2, List.getElem?_map, List.getElem?_range hi]
  rfl
theorem eqv_str (a b : Str) : (PyData.str a).eqv (.str b) = decide (a = b) := by
  simp only [PyData.eqv]
  by_cases h : a = b
  · subst h; simp
  · rw [decide_eq_false h]; exact beq_eq_false_iff_ne.mpr h
theorem any_str (l : List Str) (x : Str) : (l.map PyData.str).any (fun z => z.eqv (.str x)) = decide (x ∈ l) := by
  induction l with
  | nil => rfl
  | cons a l ih =>
    rw [List.map_cons, List.any_cons, ih, eqv_str]
    by_cases h : a = x
    · simp [h]
    · by_cases h2 : x ∈ l <;> simp [h, h2, Ne.symm h]
theorem eqv_pair (a b c d : Str) : (PyData.tuple [.str a, .str b]).eqv (.tuple [.str c, .str d]) = decide ((a, b) = (c, d)) := by
  have e : (PyData.tuple [.str a, .str b]).eqv (.tuple [.str c, .str d]) = ((PyData.str a).eqv (.str c) && (PyData.str b).eqv (.str d)) := by
    simp only [PyData.eqv, PyData.eqvAll, Bool.and_true]
  rw [e, eqv_str, eqv_str]
  by_cases h : a = c <;> by_cases h2 : b = d <;> simp [h, h2]
def pairOf (p : Str × Str) : PyData := .tuple [.str p.1, .str p.2]
theorem any_pair (l : List (Str × Str)) (a b : Str) : (l.map pairOf).any (fun z => z.eqv (.tuple [.str a, .str b])) = decide ((a, b) ∈ l) := by
  induction l with
  | nil => rfl
  | cons p l ih =>
    obtain ⟨c, d⟩ := p
    rw [List.map_cons, List.any_cons, ih]
    show ((PyData.tuple [.str c, .str d]).eqv (.tuple [.str a, .str b]) || _) = _
    rw [eqv_pair]
    by_cases h : (c, d) = (a, b)
    · rw [h]; simp
    · by_cases h2 : (a, b) ∈ l
      · simp [h2]
      · rw [decide_eq_false h, decide_eq_false h2, decide_eq_false]
        · rfl
        · intro z
          rcases List.mem_cons.mp z with z | z
          · exact h z.symm
          · exact h2 z
end WR
namespace WR
open PySem PySem.Spec PyProof.Rows L2
/-! ## drawn towns and standings are such -/
theorem stock_name : ∀ x ∈ stock, isNameS x = true := by decide +kernel
theorem home_entry {d : PyData} (h : HomeD d) : isEntry d = true := by
  obtain ⟨x, hx, i, _, rfl⟩ := h
  have e : isEntry (.tuple [.str x, .int (i : Nat)]) = (isNameS x && (isWhole (.int (i : Nat)) && decide ((0 : Int) ≤ (i : Nat)))) := rfl
  have w : isWhole (.int ((i : Nat) : Int)) = true := by rfl
  rw [e, stock_name x hx, w, decide_eq_true (by omega)]; rfl
theorem badHome_ok : ∀ (l : List PyData) (k : Nat) (seen : List Str), (∀ d ∈ l, isEntry d = true) → (seen ++ l.map entryName).Nodup → badHome k seen l = .none
  | [], _, _, _, _ => rfl
  | d :: r, k, seen, h, nd => by
    unfold badHome
    have e : seen ++ (d :: r).map entryName = (seen ++ [entryName d]) ++ r.map entryName := by simp
    rw [e] at nd
    have n1 : (seen ++ [entryName d]).Nodup := (List.nodup_append.mp nd).1
    have n2 : entryName d ∉ seen := fun z => by
      have := (List.nodup_append.mp n1).2.2 _ z _ (List.mem_singleton.mpr rfl)
      exact this rfl
    rw [if_pos (by simp [homeOk, h d List.mem_cons_self, n2])]
    exact badHome_ok r _ _ (fun x hx => h x (List.mem_cons_of_mem _ hx)) nd
/-- roads that are such: of the names, no two alike -/
def Good (names : List Str) (ps : List (Str × Str)) : Prop := (∀ p ∈ ps, p.1 ∈ names ∧ p.2 ∈ names ∧ p.1 ≠ p.2) ∧ ps.Pairwise fun p q => p ≠ q ∧ p ≠ (q.2, q.1)
theorem good_nil (names : List Str) : Good names [] := ⟨(fun _ z => by cases z), List.Pairwise.nil⟩
theorem good_snoc {names : List Str} {ps : List (Str × Str)} {a b : Str} (h : Good names ps) (ha : a ∈ names) (hb : b ∈ names) (ne : a ≠ b) (n1 : (a, b) ∉ ps) (n2 : (b, a) ∉ ps) : Good names (ps ++ [(a, b)]) := by
  refine ⟨fun p hp => ?_, List.pairwise_append.mpr ⟨h.2, List.pairwise_singleton .., fun p hp q hq => ?_⟩⟩
  · rcases List.mem_append.mp hp with z | z
    · exact h.1 p z
    · rw [List.mem_singleton.mp z]; exact ⟨ha, hb, ne⟩
  · rw [List.mem_singleton.mp hq]
    exact ⟨fun z => n1 (by rw [← z]; exact hp), fun z => n2 (by rw [← z]; exact hp)⟩
theorem badRoad_ok : ∀ (l : List (Str × Str)) (k : Nat) (names : List Str) (pairs : List (Str × Str)), (∀ p ∈ l, p.1 ∈ names ∧ p.2 ∈ names ∧ p.1 ≠ p.2) → (pairs ++ l).Pairwise (fun p q => p ≠ q ∧ p ≠ (q.2, q.1)) → badRoad k names pairs (l.map pairOf) = .none
  | [], _, _, _, _, _ => rfl
  | (a, b) :: r, k, names, pairs, h, pw => by
    obtain ⟨h1, h2, h3⟩ := h (a, b) List.mem_cons_self
    have e : pairs ++ (a, b) :: r = (pairs ++ [(a, b)]) ++ r := by simp
    rw [e] at pw
    have p1 := (List.pairwise_append.mp pw).1
    have p2 := (List.pairwise_append.mp p1).2.2
    have n1 : (a, b) ∉ pairs := fun z => (p2 _ z _ (List.mem_singleton.mpr rfl)).1 rfl
    have n2 : (b, a) ∉ pairs := fun z => (p2 _ z _ (List.mem_singleton.mpr rfl)).2 rfl
    rw [List.map_cons]
    unfold badRoad
    have ok : roadOk names pairs (pairOf (a, b)) = true := by
      have e2 : roadOk names pairs (pairOf (a, b)) = ((decide (a ∈ names) && decide (b ∈ names)) && (decide (a ≠ b) && (!decide ((a, b) ∈ pairs) && !decide ((b, a) ∈ pairs)))) := rfl
      rw [e2]
      have h1' : a ∈ names := h1
      have h2' : b ∈ names := h2
      have h3' : a ≠ b := h3
      simp [h1', h2', h3', n1, n2]
    rw [if_pos ok]
    exact badRoad_ok r _ _ _ (fun x hx => h x (List.mem_cons_of_mem _ hx)) pw
theorem good_bad {names : List Str} {ps : List (Str × Str)} (h : Good names ps) : badRoad 0 names [] (ps.map pairOf) = .none := badRoad_ok ps 0 names [] h.1 h.2
/-- some of them turned about -/
def Turned (ps qs : List (Str × Str)) : Prop := ∀ (j : Nat) (p : Str × Str), qs[j]? = some p → ∃ q, ps[j]? = some q ∧ (p = q ∨ p = (q.2, q.1))
theorem good_turned {names : List Str} {ps qs : List (Str × Str)} (h : Good names ps) (t : Turned ps qs) : Good names qs := by
  refine ⟨fun p hp => ?_, List.pairwise_iff_getElem.mpr fun i j hi hj hij => ?_⟩
  · obtain ⟨j, hj⟩ := List.getElem?_of_mem hp
    obtain ⟨q, hq, e⟩ := t j p hj
    obtain ⟨h1, h2, h3⟩ := h.1 q (List.mem_of_getElem? hq)
    rcases e with rfl | rfl
    · exact ⟨h1, h2, h3⟩
    · exact ⟨h2, h1, fun z => h3 z.symm⟩
  · obtain ⟨q1, e1, t1⟩ := t i _ (List.getElem?_eq_getElem hi)
    obtain ⟨q2, e2, t2⟩ := t j _ (List.getElem?_eq_getElem hj)
    obtain ⟨b1, c1⟩ := List.getElem?_eq_some_iff.mp e1
    obtain ⟨b2, c2⟩ := List.getElem?_eq_some_iff.mp e2
    have pw := List.pairwise_iff_getElem.mp h.2 i j b1 b2 hij
    rw [c1, c2] at pw
    obtain ⟨n1, n2⟩ := pw
    obtain ⟨x1, y1⟩ := q1
    obtain ⟨x2, y2⟩ := q2
    simp only [ne_eq, Prod.mk.injEq, not_and] at n1 n2
    rcases t1 with z1 | z1 <;> rcases t2 with z2 | z2 <;> rw [z1, z2] <;> simp only [ne_eq, Prod.mk.injEq, not_and]
    · exact ⟨n1, n2⟩
    · exact ⟨n2, fun a b => n1 a b⟩
    · exact ⟨fun a b => n2 b a, fun a b => n1 b a⟩
    · exact ⟨fun a b => n1 b a, fun a b => n2 b a⟩
theorem turned_snoc {ps qs : List (Str × Str)} {q p : Str × Str} (t : Turned ps qs) (hq : ps[qs.length]? = some q) (e : p = q ∨ p = (q.2, q.1)) : Turned ps (qs ++ [p]) := fun j r hr => by
  by_cases h : j < qs.length
  · rw [List.getElem?_append_left h] at hr
    exact t j r hr
  · have hj : j = qs.length := by
      have := (List.getElem?_eq_some_iff.mp hr).1
      rw [List.length_append] at this
      simp at this
      omega
    subst hj
    simp at hr
    subst hr
    exact ⟨q, hq, e⟩
theorem town_good {e : PyData} {l : List PyData} {ps : List (Str × Str)} (h : ∀ d ∈ e :: l, HomeD d) (nd : ((e :: l).map entryName).Nodup) (g : Good ((e :: l).map entryName) ps) : townWrong (.tuple [.tuple (e :: l), .tuple (ps.map pairOf)]) = .none := by
  show orElse (badHome 0 [] (e :: l)) (badRoad 0 ((e :: l).map entryName) [] (ps.map pairOf)) = .none
  rw [badHome_ok _ 0 [] (fun d hd => home_entry (h d hd)) (by simpa using nd), good_bad g]
  rfl
theorem good_pairs {ns : List Str} {ps : List (Str × Str)} (h : Good ns ps) (hs : ∀ x ∈ ns, x ∈ stock) : ∀ d ∈ ps.map pairOf, PairD d := fun d hd => by
  obtain ⟨p, hp, rfl⟩ := List.mem_map.mp hd
  obtain ⟨h1, h2, _⟩ := h.1 p hp
  exact ⟨p.1, p.2, hs _ h1, hs _ h2, rfl⟩
theorem pick_wordAt {H : Hp} {a : Addr} {l : List Str} {r : Nat} {y : V} {R : VK} (ey : y = .int (r : Int)) (e : H a = some (.lst (l.map V.str))) (hl : l.length ≤ 1000) (hr : r < l.length) (hs : ∀ x ∈ l, x ∈ stock) (q : R (.str l[r]) H) : rItemD (.ref a) y H R := by
  subst ey
  refine ⟨.list (l.map PyData.str), .str l[r], r, .lst e (dvs_words hs) (by rw [List.length_map]; exact hl), rfl, by simp [itemD, hr], fun v hv => ?_⟩
  cases dv_str hv
  exact q
theorem nodup_at {l : List Str} (h : l.Nodup) {i j : Nat} {x : Str} (hi : l[i]? = some x) (hj : l[j]? = some x) : i = j := by
  obtain ⟨a, ha⟩ := List.getElem?_eq_some_iff.mp hi
  obtain ⟨b, hb⟩ := List.getElem?_eq_some_iff.mp hj
  have pw := List.pairwise_iff_getElem.mp h
  rcases Nat.lt_trichotomy i j with z | z | z
  · exact absurd (ha.trans hb.symm) (pw i j a b z)
  · exact z
  · exact absurd (hb.trans ha.symm) (pw j i b a z)
theorem badHand_ok : ∀ (l : List PyData) (k : Nat) (seen : List Str), (∀ d ∈ l, isUnit d = true ∨ isEntry d = true) → (seen ++ (l.filter fun d => !isUnit d).map entryName).Nodup → badHand k seen l = .none
  | [], _, _, _, _ => rfl
  | d :: r, k, seen, h, nd => by
    unfold badHand
    by_cases u : isUnit d = true
    · rw [if_pos (by simp [handOk, u]), if_pos u]
      refine badHand_ok r _ _ (fun x hx => h x (List.mem_cons_of_mem _ hx)) ?_
      rw [List.filter_cons_of_neg (by simp [u])] at nd
      exact nd
    · have en := (h d List.mem_cons_self).resolve_left u
      rw [List.filter_cons_of_pos (by simpa using u)] at nd
      have e : seen ++ (d :: r.filter fun d => !isUnit d).map entryName = (seen ++ [entryName d]) ++ (r.filter fun d => !isUnit d).map entryName := by simp
      rw [e] at nd
      have n1 : (seen ++ [entryName d]).Nodup := (List.nodup_append.mp nd).1
      have n2 : entryName d ∉ seen := fun z => by
        have := (List.nodup_append.mp n1).2.2 _ z _ (List.mem_singleton.mpr rfl)
        exact this rfl
      rw [if_pos (by simp [handOk, homeOk, en, n2]), if_neg u]
      exact badHand_ok r _ _ (fun x hx => h x (List.mem_cons_of_mem _ hx)) nd
end WR
namespace WR
open PySem PySem.Spec PyProof.Rows L2
section
variable {P : Program} {w : World} {K : PySem.W.Frag} {mg : Str → Option Value} {base : Heap} {f : Addr} {fd : FuncData} {T : Addr}
/-! ### _law_town -/
abbrev s_law_town : Stmt := topS 32
abbrev N_law_town : List Str := ["purse", "most", "names", "homes", "roads", "k", "pair", "turned", "road", "name"]
abbrev P_law_town : List Str := ["purse", "most"]
theorem sc_law_town : FnScope N_law_town P_law_town (defScope s_law_town) := ⟨rfl, rfl, rfl, by decide +kernel, rfl, by decide +kernel, by decide +kernel⟩

def sp_law_town : Sp := fun vs H Q _ => ∃ (p : Addr) (mm b : Nat), vs = [.ref p, .int (mm : Nat)] ∧ 1 ≤ mm ∧ mm ≤ 8 ∧ Purse H p b ∧ b ≤ 800000 ∧ ∀ H' v d, StayT (wl [p] H) (wl [p] H') → Purse H' p (b + 100) → DV (wl [p] H') v d → TownD d → townWrong d = .none → Q v H'
theorem ok_law_town (F : FnP K "_law_town" s_law_town f fd) (fr : Free mg) (c_law_draw : Cal P w K mg base "_law_draw" 2 P_law_draw sp_law_draw) (c_law_words : Cal P w K mg base "_law_words" 3 P_law_words sp_law_words) : FnOk P w K mg base (L2.CX P w) 4 f fd P_law_town sp_law_town := by
  refine F.ok sc_law_town (fun vs H Q E h => ?_) (fun cdv A outer s H vs Q E hr h => ⟨_, PSs.nox (pss_cons (ps_set (i := 2) sc_law_town.nd rfl (Or.inl rfl) (pe_F c_law_words (hr.mono (by omega)) (pa_cons (pv 0) (pa_cons (pe_op op_add pe_int (pe_F c_law_draw (hr.mono (by omega)) (pa_cons (pv 0) (pa_cons (pv 1) pa_nil)))) pa_nil))))
    (pss_cons (ps_set (i := 3) sc_law_town.nd rfl (Or.inl rfl) (pe_callTy call_tuple_of (by rfl) (fr "tuple" (by decide)) (by decide +kernel) (pa_cons (pe_lc (own := [("name", 9)]) (g := gName 9) (tt := tYes) rfl sc_law_town.nd (pi_list (pv 2)) (blkOk_by (N := N_law_town) (sc := defScope s_law_town) (by decide +kernel)) (fun _ _ _ _ _ => (pg_name (i := 9) sc_law_town.nd rfl (Or.inl rfl))) (fun _ _ _ _ _ => by exact pts_nil) (fun _ _ _ _ _ => by exact (pe_tup (pa_cons (pv 9) (pa_cons (pe_ix ix_D (pe_lst (pa_cons pe_int (pa_cons pe_int (pa_cons pe_int (pa_cons pe_int (pa_cons pe_int (pa_cons pe_int pa_nil))))))) (pe_F c_law_draw (hr.mono (by omega)) (pa_cons (pv 0) (pa_cons pe_int pa_nil))) (fun _ _ => rfl)) pa_nil))))) pa_nil)))
    (pss_cons (ps_set (i := 4) sc_law_town.nd rfl (Or.inl rfl) (pe_lst pa_nil))
    (pss_cons (ps_for PassesOwn.never rfl (pi_range2 rfl (fr "range" (by decide)) (pa_cons pe_int (pa_cons (pe_callB call_lenD' (by rfl) (fr "len" (by decide)) (by decide +kernel) (pa_cons (pv 2) pa_nil)) pa_nil))) (pg_name (i := 5) sc_law_town.nd rfl (Or.inl rfl)) (pss_one (ps_if (pt_cmpR op_gt (pe_F c_law_draw (hr.mono (by omega)) (pa_cons (pv 0) (pa_cons pe_int pa_nil))) pe_int (nomark _)) (pss_one (ps_expr (pe_bm PySem.F.plainAttrs_list PySem.F.slot_list_append PySem.F.type_list_append mt_append (pv 4) (pa_cons (pe_tup (pa_cons (pe_ix ix_D (pv 2) (pe_F c_law_draw (hr.mono (by omega)) (pa_cons (pv 0) (pa_cons (pv 5) pa_nil))) (fun _ _ => rfl)) (pa_cons (pe_ix ix_D (pv 2) (pv 5) (fun _ _ => rfl)) pa_nil))) pa_nil)))) pss_nil)))
    (pss_cons (ps_for PassesOwn.never rfl (pi_range1 rfl (fr "range" (by decide)) (pa_cons (pe_F c_law_draw (hr.mono (by omega)) (pa_cons (pv 0) (pa_cons pe_int pa_nil))) pa_nil)) (pg_name (i := 5) sc_law_town.nd rfl (Or.inl rfl)) (pss_cons (ps_set (i := 6) sc_law_town.nd rfl (Or.inl rfl) (pe_tup (pa_cons (pe_ix ix_D (pv 2) (pe_F c_law_draw (hr.mono (by omega)) (pa_cons (pv 0) (pa_cons (pe_callB call_lenD' (by rfl) (fr "len" (by decide)) (by decide +kernel) (pa_cons (pv 2) pa_nil)) pa_nil))) (fun _ _ => rfl)) (pa_cons (pe_ix ix_D (pv 2) (pe_F c_law_draw (hr.mono (by omega)) (pa_cons (pv 0) (pa_cons (pe_callB call_lenD' (by rfl) (fr "len" (by decide)) (by decide +kernel) (pa_cons (pv 2) pa_nil)) pa_nil))) (fun _ _ => rfl)) pa_nil))))
    (pss_one (ps_if (PW.pt (pw_and (pt_cmpR (op_neDD hr.units) (pe_ix ix_D (pv 6) pe_int (fun _ _ => rfl)) (pe_ix ix_D (pv 6) pe_int (fun _ _ => rfl)) (nomark _)) (pw_and (pt_cmpR (notInD_K (units1 hr)) (pv 6) (pv 4) rfl) (pw_and1 (pt_cmpR (notInD_K (units1 hr)) (revT_K (pv 6)) (pv 4) rfl))))) (pss_one (ps_expr (pe_bm PySem.F.plainAttrs_list PySem.F.slot_list_append PySem.F.type_list_append mt_append (pv 4) (pa_cons (pv 6) pa_nil)))) pss_nil))))
    (pss_cons (ps_set (i := 7) sc_law_town.nd rfl (Or.inl rfl) (pe_lst pa_nil))
    (pss_cons (ps_for PassesOwn.never rfl (pi_list (pv 4)) (pg_name (i := 8) sc_law_town.nd rfl (Or.inl rfl)) (pss_one (ps_expr (pe_bm PySem.F.plainAttrs_list PySem.F.slot_list_append PySem.F.type_list_append mt_append (pv 7) (pa_cons (pe_ix ix_D (pe_lst (pa_cons (pv 8) (pa_cons (revT_K (pv 8)) pa_nil))) (pe_F c_law_draw (hr.mono (by omega)) (pa_cons (pv 0) (pa_cons pe_int pa_nil))) (fun _ _ => rfl)) pa_nil)))))
    (pss_one (ps_ret (pe_tup (pa_cons (pv 3) (pa_cons (pe_callTy call_tuple_of (by rfl) (fr "tuple" (by decide)) (by decide +kernel) (pa_cons (pv 7) pa_nil)) pa_nil)))))))))))), ?_⟩)
  · obtain ⟨p, mm, b, rfl, _⟩ := h; rfl
  · obtain ⟨p, mm, b, rfl, mm1, mm8, hp, hb, q⟩ := h
    refine ⟨_, rfl, _, rfl, _, rfl, p, mm, b, rfl, hp, by omega, by omega, by omega, fun H1 r s1 hp1 hr1 => ⟨_, _, rfl, rfl, p, 1 + r, b + 1, by push_cast; rfl, hp1, by omega, by omega, fun H2 an ns s2 hp2 nan han lns inns ndn => ?_⟩⟩
    have pm : p ∈ [p] := List.mem_singleton.mpr rfl
    have S2 : StayT (wl [p] H) (wl [p] H2) := (wl_draw s1 pm).trans (wl_draw s2 pm)
    have an_p : an ≠ p := hp1.ne nan
    have nsl : ns.length ≤ 8 := by omega
    refine ⟨_, rfl, an, rfl, ⟨_, SqL.of han⟩, fun D nD => ?_⟩
    have D_p : D ≠ p := hp2.ne nD
    have D_an : D ≠ an := fun z => by rw [z, han] at nD; cases nD
    have pD : p ∈ [D, p] := by simp
    have DD : D ∈ [D, p] := by simp
    have han2 : wl [p] H2 an = some (.lst (ns.map V.str)) := by rw [wl_out (by simpa using an_p)]; exact han
    refine lc_it (walk_list (xs := ns.map V.str)) (fun i H3 => ∃ vs ds, H3 D = some (.lst vs) ∧ DVs (wl [D, p] H3) vs ds ∧ ds.length = i ∧ (∀ d ∈ ds, HomeD d) ∧ StayT (wl [p] H2) (wl [D, p] H3) ∧ Purse H3 p (b + 9 + i) ∧ ds.map entryName = ns.take i) ?h0 ?hG ?hs ?hd
    case h0 =>
      refine ⟨[], [], upd_same, .nil, rfl, (fun _ z => by cases z), ?_, (hp2.upd D_p).mono (by omega), rfl⟩
      rw [wl_upd_in DD]
      exact wl_more nD
    case hG =>
      rintro i H3 hi ⟨vs, ds, hD, _, _, _, S, _⟩
      exact SqL.of (wl_some (S.same _ _ han2 fun _ z => nomatch z)).2
    case hs =>
      rintro i x _ H3 hi ⟨vs, ds, hD, hds, hl, hom, S, hp3, nms⟩ ⟨rfl, hx⟩
      have hi' : i < ns.length := by simpa using hi
      have hx' : x = .str ns[i] := by simpa [hi'] using hx.symm
      subst hx'
      refine ⟨rfl, yes_go ⟨_, rfl, by show 6 ≤ sizeLine; decide, fun ql nql => ?_⟩⟩
      have ql_p : ql ≠ p := hp3.ne nql
      have ql_D : ql ≠ D := fun z => by rw [z, hD] at nql; cases nql
      refine ⟨_, rfl, p, 6, b + 9 + i, rfl, hp3.upd ql_p, by omega, by omega, by omega, fun H5 r5 s5 hp5 hr5 => ?_⟩
      have e5 := drawn_keeps s5 ql_p upd_same
      refine pick_int (l := [0, 1, 1, 2, 3, 5]) e5 (by decide) hr5 fun j hj => ?_
      refine ⟨by show 2 ≤ sizeLine; decide, fun tp ntp => ?_⟩
      have hD5 : H5 D = some (.lst vs) := drawn_keeps s5 D_p (by rw [upd_ne ql_D.symm]; exact hD)
      have tp_D : tp ≠ D := fun z => by rw [z, hD5] at ntp; cases ntp
      have tp_p : tp ≠ p := hp5.ne ntp
      have S35 : StayT (wl [D, p] H3) (wl [D, p] H5) := (wl_alloc nql).trans (wl_draw s5 pD)
      have S36 := S35.trans (wl_alloc (ms := [D, p]) (o := .tup [.str ns[i], .int j]) ntp)
      obtain ⟨jn, rfl, jb⟩ : ∃ jn : Nat, j = jn ∧ jn ∈ coins := by
        have : ∀ j ∈ ([0, 1, 1, 2, 3, 5] : List Int), j = (j.toNat : Int) ∧ j.toNat ∈ coins := by decide
        exact ⟨j.toNat, this j hj⟩
      refine ⟨vs, by rw [upd_ne tp_D.symm]; exact hD5, ?_, vs ++ [.ref tp], ds ++ [.tuple [.str ns[i], .int jn]], upd_same, ?_, by simp [hl], all_snoc hom ⟨ns[i], inns _ (List.getElem_mem _), jn, jb, rfl⟩, ?_, ?_, ?_⟩
      · have : vs.length = ds.length := hds.length
        exact Nat.lt_of_le_of_lt (show vs.length ≤ 8 by omega) (by decide)
      · rw [wl_upd_in DD]
        exact (hds.stay S36).snoc (dv_made ntp (by simp [tp_D, tp_p]) (.two (dv_word (inns _ (List.getElem_mem _))) (.int _)) (by show 2 ≤ 1000; decide))
      · rw [wl_upd_in DD]
        exact S.trans S36
      · exact ((hp5.upd tp_p).upd D_p).mono (by omega)
      · rw [List.map_append, nms, List.take_add_one, List.getElem?_eq_getElem hi']; rfl
    case hd =>
      rintro H3 ⟨vs, ds, hD, hds, hl, hom, S, hp3, nms⟩
      rw [List.length_map] at hl hp3 nms
      rw [List.take_length] at nms
      refine ⟨D, vs, rfl, .inl ⟨SqL.of hD, fun hm nhm => ?_⟩⟩
      have hm_p : hm ≠ p := hp3.ne nhm
      have hm_D : hm ≠ D := fun z => by rw [z, hD] at nhm; cases nhm
      have S3 : StayT (wl [p] H2) (wl [p] (upd H3 hm (.tup vs))) := S.trans (wl_less.trans (wl_alloc nhm))
      have homes : DV (wl [p] (upd H3 hm (.tup vs))) (.ref hm) (.tuple ds) := dv_made nhm (by simpa using hm_p) (hds.stay wl_less) (by omega)
      have hp4 : Purse (upd H3 hm (.tup vs)) p (b + 17) := (hp3.upd hm_p).mono (by omega)
      generalize upd H3 hm (.tup vs) = H4 at S3 homes hp4
      have hl8 : ds.length ≤ 8 := by omega
      clear S hds hD hp3 hl hr1 nhm
      refine ⟨by show 0 ≤ sizeLine; decide, fun rd nrd => ?_⟩
      have rd_p : rd ≠ p := hp4.ne nrd
      have prd : p ∈ [rd, p] := by simp
      have rdrd : rd ∈ [rd, p] := by simp
      -- the names, on and on
      have names : ∀ {ms : List Addr} {G : Hp}, StayT (wl [p] H2) (wl ms G) → G an = some (.lst (ns.map V.str)) := fun S => (wl_some (S.same _ _ han2 fun _ z => nomatch z)).2
      have dn : ∀ {ms : List Addr} {G : Hp}, StayT (wl [p] H2) (wl ms G) → DV G (.ref an) (.list (ns.map PyData.str)) := fun S => .lst (names S) (dvs_words inns) (by rw [List.length_map]; omega)
      have ln : lenD (.list (ns.map PyData.str)) = some ns.length := by simp [lenD]
      have S4 : StayT (wl [p] H2) (wl [rd, p] (upd H4 rd (.lst []))) := by
        rw [wl_upd_in rdrd]
        exact S3.trans (wl_more nrd)
      have homes4 : DV (wl [rd, p] (upd H4 rd (.lst []))) (.ref hm) (.tuple ds) := by
        rw [wl_upd_in rdrd]
        exact homes.stay (wl_more nrd)
      refine ⟨_, rfl, _, _, ns.length, rfl, dn S4, ln, 1, (ns.length : Int), rfl, ⟨by decide, by decide, by omega, by omega⟩, ?_⟩
      refine for_it walk_range (fun i σ G => ∃ (vs : List V) (ps : List (Str × Str)) (v5 : Option V), σ = [some (.ref p), some (.int (mm : Nat)), some (.ref an), some (.ref hm), some (.ref rd), v5, none, none, none, none] ∧ StayT (wl [p] H2) (wl [rd, p] G) ∧ DV (wl [rd, p] G) (.ref hm) (.tuple ds) ∧ G rd = some (.lst vs) ∧ DVs (wl [rd, p] G) vs (ps.map pairOf) ∧ ps.length ≤ i ∧ Good ns ps ∧ Purse G p (b + 17 + 2 * i) ∧ (∀ q ∈ ps, ∃ j k : Nat, j ≤ i ∧ k ≤ i ∧ ns[j]? = some q.1 ∧ ns[k]? = some q.2)) ?h0 ?hG ?hs ?hd
      case h0 => exact ⟨[], [], none, rfl, S4, homes4, upd_same, .nil, Nat.le_refl _, good_nil ns, hp4.upd rd_p, (fun _ z => by cases z)⟩
      case hG => intros; trivial
      case hs =>
        rintro i x σ _ G hi ⟨vs, es, v5, rfl, S, hom5, hrd, hes, hl, gd, hpG, idx⟩ ⟨rfl, rfl⟩
        have hi' : i < ns.length - 1 := by omega
        refine ⟨_, rfl, p, 8, _, rfl, hpG, by omega, by omega, by omega, fun G1 r1 t1 hpG1 hr1 => ⟨_, _, rfl, rfl, _, rfl, ?_⟩⟩
        have T1 := wl_draw t1 prd
        have hrd1 := drawn_keeps t1 rd_p hrd
        by_cases z : (0 : Int) < (r1 : Nat)
        · rw [decide_eq_true z]
          refine iteT ⟨_, rfl, tyV_lst hrd1, _, rfl, _, rfl, _, rfl, p, 1 + i, _, by push_cast; rfl, hpG1, by omega, by omega, by omega, fun G2 r2 t2 hpG2 hr2 => ?_⟩
          have T2 := T1.trans (wl_draw t2 prd)
          have hrd2 := drawn_keeps t2 rd_p hrd1
          have b1 : r2 < ns.length := by omega
          have b2 : 1 + i < ns.length := by omega
          refine pick_wordAt (r := r2) rfl (names (S.trans T2)) (by omega) b1 inns ⟨_, rfl, _, rfl, ?_⟩
          refine pick_wordAt (r := 1 + i) (by show V.int (1 + (i : Int)) = .int ((1 + i : Nat) : Int); push_cast; rfl) (names (S.trans T2)) (by omega) b2 inns ⟨by show 2 ≤ sizeLine; decide, fun tp ntp => ?_⟩
          have e1 : ns[r2]? = some ns[r2] := List.getElem?_eq_getElem b1
          have e2 : ns[1 + i]? = some ns[1 + i] := List.getElem?_eq_getElem b2
          have hw1 : ns[r2] ∈ ns := List.getElem_mem b1
          have hw2 : ns[1 + i] ∈ ns := List.getElem_mem b2
          generalize ns[r2] = w1 at e1 hw1 ntp
          generalize ns[1 + i] = w2 at e2 hw2 ntp
          have ne12 : w1 ≠ w2 := fun z => by
            subst z
            have := nodup_at ndn e1 e2
            omega
          have n1 : (w1, w2) ∉ es := fun z => by
            obtain ⟨j, k, _, hk, _, h2⟩ := idx _ z
            have := nodup_at ndn h2 e2
            omega
          have n2 : (w2, w1) ∉ es := fun z => by
            obtain ⟨j, k, hj, _, h1, _⟩ := idx _ z
            have := nodup_at ndn h1 e2
            omega
          have tp_p : tp ≠ p := hpG2.ne ntp
          have tp_rd : tp ≠ rd := fun z => by rw [z, hrd2] at ntp; cases ntp
          have T3 := T2.trans (wl_alloc (ms := [rd, p]) (o := .tup [.str w1, .str w2]) ntp)
          refine ⟨rd, vs, .ref tp, rfl, rfl, by rw [upd_ne tp_rd.symm]; exact hrd2, ?_, vs ++ [.ref tp], es ++ [(w1, w2)], _, rfl, ?_, ?_, upd_same, ?_, by simp; omega, good_snoc gd hw1 hw2 ne12 n1 n2, ((hpG2.upd tp_p).upd rd_p).mono (by omega), ?_⟩
          · have : vs.length = (es.map pairOf).length := hes.length
            rw [List.length_map] at this
            exact Nat.lt_of_le_of_lt (show vs.length ≤ 8 by omega) (by decide)
          · rw [wl_upd_in rdrd]; exact S.trans T3
          · rw [wl_upd_in rdrd]; exact hom5.stay T3
          · rw [wl_upd_in rdrd, List.map_append]
            exact (hes.stay T3).snoc (dv_made ntp (by simp [tp_rd, tp_p]) (.two (dv_word (inns _ hw1)) (dv_word (inns _ hw2))) (by show 2 ≤ 1000; decide))
          · intro q hq
            rcases List.mem_append.mp hq with z | z
            · obtain ⟨j, k, h1, h2, h3⟩ := idx q z
              exact ⟨j, k, by omega, by omega, h3⟩
            · rw [List.mem_singleton.mp z]
              exact ⟨r2, 1 + i, by omega, by omega, e1, e2⟩
        · rw [decide_eq_false z]
          refine iteF ⟨vs, es, _, rfl, S.trans T1, hom5.stay T1, hrd1, hes.stay T1, by omega, gd, hpG1.mono (by omega), fun q hq => ?_⟩
          obtain ⟨j, k, h1, h2, h3⟩ := idx q hq
          exact ⟨j, k, by omega, by omega, h3⟩
      case hd =>
        rintro σ G ⟨vs, es, v5, rfl, S, hom5, hrd, hes, hl, gd, hpG, _⟩
        have vl : vs.length = es.length := by have := hes.length; rw [List.length_map] at this; exact this
        have hl7 : es.length ≤ 7 := by omega
        replace hpG : Purse G p (b + 31) := hpG.mono (by omega)
        clear hl
        refine ⟨_, rfl, p, 4, _, rfl, hpG, by omega, by omega, by omega, fun G1 r1 t1 hpG1 hr1 => ⟨(r1 : Int), rfl, by omega, by omega, ?_⟩⟩
        refine for_it walk_range (fun i σ G2 => ∃ (vs : List V) (es : List (Str × Str)) (v5 v6 : Option V), σ = [some (.ref p), some (.int (mm : Nat)), some (.ref an), some (.ref hm), some (.ref rd), v5, v6, none, none, none] ∧ StayT (wl [p] H2) (wl [rd, p] G2) ∧ DV (wl [rd, p] G2) (.ref hm) (.tuple ds) ∧ G2 rd = some (.lst vs) ∧ DVs (wl [rd, p] G2) vs (es.map pairOf) ∧ es.length ≤ 7 + i ∧ Good ns es ∧ Purse G2 p (b + 32 + 2 * i)) ?h0 ?hG ?hs ?hd
        case h0 =>
          have T1 := wl_draw t1 prd
          exact ⟨vs, es, v5, none, rfl, S.trans T1, hom5.stay T1, drawn_keeps t1 rd_p hrd, hes.stay T1, by omega, gd, hpG1.mono (by omega)⟩
        case hG => intros; trivial
        case hs =>
          clear hrd hes gd hpG S hom5 hpG1 vl
          rintro i x σ _ G hi ⟨vs, es, v5, v6, rfl, S, hom5, hrd, hes, hl, gd, hpG⟩ ⟨rfl, rfl⟩
          have hi' : i < 4 := by omega
          have vl : vs.length = es.length := by have := hes.length; rw [List.length_map] at this; exact this
          have pr := good_pairs gd inns
          refine ⟨_, rfl, _, rfl, _, rfl, _, _, ns.length, rfl, dn S, ln, p, ns.length, _, rfl, hpG, by omega, by omega, by omega, fun G2 r2 t2 hpG2 hr2 => ?_⟩
          have T2 := wl_draw t2 prd
          refine pick_word (names (S.trans T2)) (by omega) (by omega) inns fun w1 hw1 => ⟨_, rfl, _, rfl, _, rfl, _, _, ns.length, rfl, dn (S.trans T2), ln, p, ns.length, _, rfl, hpG2, by omega, by omega, by omega, fun G3 r3 t3 hpG3 hr3 => ?_⟩
          have T3 := T2.trans (wl_draw t3 prd)
          have hrd3 := drawn_keeps t3 rd_p (drawn_keeps t2 rd_p hrd)
          refine pick_word (names (S.trans T3)) (by omega) (by omega) inns fun w2 hw2 => ⟨by show 2 ≤ sizeLine; decide, fun tp ntp => ?_⟩
          have tp_p : tp ≠ p := hpG3.ne ntp
          have tp_rd : tp ≠ rd := fun z => by rw [z, hrd3] at ntp; cases ntp
          have T4 := T3.trans (wl_alloc (ms := [rd, p]) (o := .tup [.str w1, .str w2]) ntp)
          have pd : PairD (.tuple [.str w1, .str w2]) := ⟨w1, w2, inns _ hw1, inns _ hw2, rfl⟩
          have dp : DV (wl [rd, p] (upd G3 tp (.tup [.str w1, .str w2]))) (.ref tp) (.tuple [.str w1, .str w2]) := dv_made ntp (by simp [tp_rd, tp_p]) (.two (dv_word (inns _ hw1)) (dv_word (inns _ hw2))) (by show 2 ≤ 1000; decide)
          have htp : upd G3 tp (.tup [.str w1, .str w2]) tp = some (.tup [.str w1, .str w2]) := upd_same
          have hrd4 : upd G3 tp (.tup [.str w1, .str w2]) rd = some (.lst vs) := by rw [upd_ne tp_rd.symm]; exact hrd3
          have hpG4 := hpG3.upd (o := .tup [.str w1, .str w2]) tp_p
          have S4' := S.trans T4
          have hom4 := hom5.stay T4
          have hes4 := hes.stay T4
          generalize upd G3 tp (.tup [.str w1, .str w2]) = G4 at dp htp hrd4 hpG4 S4' hom4 hes4
          refine ⟨_, rfl, .tuple [.str w1, .str w2], .str w1, 0, dp.out, rfl, rfl, fun u1 hu1 => ⟨_, rfl, .tuple [.str w1, .str w2], .str w2, 1, dp.out, rfl, rfl, fun u2 hu2 => ⟨.str w1, .str w2, hu1, hu2, rfl, rfl, Nat.zero_le _, Nat.zero_le _, ⟨_, rfl, ?_⟩⟩⟩⟩
          obtain ⟨k1, k2⟩ := dp_pair (K := K) dp.out pd
          obtain ⟨k3, k4⟩ := dp_pairs (K := K) hrd4 hes4.out pr (by rw [List.length_map]; omega)
          have skip : ∀ G5, StayT (wl [rd, p] G4) (wl [rd, p] G5) → G5 rd = some (.lst vs) → Purse G5 p (b + 32 + 2 * i + 1 + 1) → _ := fun G5 T5 hrd5 hpG5 => (⟨vs, es, _, _, rfl, S4'.trans T5, hom4.stay T5, hrd5, hes4.stay T5, by omega, gd, hpG5.mono (by omega)⟩ : ∃ (vs : List V) (es : List (Str × Str)) (w5 w6 : Option V), [some (V.ref p), some (.int (mm : Nat)), some (.ref an), some (.ref hm), some (.ref rd), some (.int (0 + (i : Int))), some (.ref tp), none, none, none] = [some (.ref p), some (.int (mm : Nat)), some (.ref an), some (.ref hm), some (.ref rd), w5, w6, none, none, none] ∧ StayT (wl [p] H2) (wl [rd, p] G5) ∧ DV (wl [rd, p] G5) (.ref hm) (.tuple ds) ∧ G5 rd = some (.lst vs) ∧ DVs (wl [rd, p] G5) vs (es.map pairOf) ∧ es.length ≤ 7 + (i + 1) ∧ Good ns es ∧ Purse G5 p (b + 32 + 2 * (i + 1)))
          rw [if_pos rfl, eqv_str]
          by_cases same : w1 = w2
          · rw [decide_eq_true same]
            exact iteF (skip _ (StayT.refl _) hrd4 hpG4)
          rw [decide_eq_false same]
          refine iteT ⟨_, rfl, _, rfl, _, es.map pairOf, k1, k3, k2, k4, ⟨_, rfl, ?_⟩⟩
          rw [any_pair]
          by_cases in1 : (w1, w2) ∈ es
          · rw [decide_eq_true in1]
            exact iteF (skip _ (StayT.refl _) hrd4 hpG4)
          rw [decide_eq_false in1]
          refine iteT ⟨_, rfl, tp, _, _, rfl, SqT.of htp, fun tq ntq => ⟨_, rfl, ?_⟩⟩
          have tq_p : tq ≠ p := hpG4.ne ntq
          have tq_rd : tq ≠ rd := fun z => by rw [z, hrd4] at ntq; cases ntq
          have T5 := wl_alloc (ms := [rd, p]) (o := .tup [.str w2, .str w1]) ntq
          have hrd5 : upd G4 tq (.tup [.str w2, .str w1]) rd = some (.lst vs) := by rw [upd_ne tq_rd.symm]; exact hrd4
          have dq : DV (wl [rd, p] (upd G4 tq (.tup [.str w2, .str w1]))) (.ref tq) (.tuple [.str w2, .str w1]) := dv_made ntq (by simp [tq_rd, tq_p]) (.two (dv_word (inns _ hw2)) (dv_word (inns _ hw1))) (by show 2 ≤ 1000; decide)
          have qd : PairD (.tuple [.str w2, .str w1]) := ⟨w2, w1, inns _ hw2, inns _ hw1, rfl⟩
          obtain ⟨j1, j2⟩ := dp_pair (K := K) dq.out qd
          obtain ⟨j3, j4⟩ := dp_pairs (K := K) hrd5 (hes4.stay T5).out pr (by rw [List.length_map]; omega)
          refine ⟨_, es.map pairOf, j1, j3, j2, j4, ⟨_, rfl, ?_⟩⟩
          rw [any_pair]
          by_cases in2 : (w2, w1) ∈ es
          · rw [decide_eq_true in2]
            exact iteF (skip _ T5 hrd5 (hpG4.upd tq_p))
          rw [decide_eq_false in2]
          refine iteT ⟨_, rfl, tyV_lst hrd5, _, rfl, rd, vs, .ref tp, rfl, rfl, hrd5, ?_, vs ++ [.ref tp], es ++ [(w1, w2)], _, _, rfl, ?_, ?_, upd_same, ?_, by simp; omega, good_snoc gd hw1 hw2 same in1 in2, ((hpG4.upd tq_p).upd rd_p).mono (by omega)⟩
          · exact Nat.lt_of_le_of_lt (show vs.length ≤ 11 by omega) (by decide)
          · rw [wl_upd_in rdrd]; exact S4'.trans T5
          · rw [wl_upd_in rdrd]; exact hom4.stay T5
          · rw [wl_upd_in rdrd, List.map_append]
            exact (hes4.stay T5).snoc (dp.stay T5)
        case hd =>
          clear hrd hes gd hpG S hom5 hpG1 vl
          rintro σ G ⟨vs, es, v5, v6, rfl, S, hom5, hrd, hes, hl, gd, hpG⟩
          have pr := good_pairs gd inns
          have hl2 : es.length ≤ 11 := by omega
          replace hpG : Purse G p (b + 40) := hpG.mono (by omega)
          have vl : vs.length = es.length := by have := hes.length; rw [List.length_map] at this; exact this
          clear hl
          refine ⟨by show 0 ≤ sizeLine; decide, fun tn ntn => ?_⟩
          have tn_p : tn ≠ p := hpG.ne ntn
          have tn_rd : tn ≠ rd := fun z => by rw [z, hrd] at ntn; cases ntn
          have ptn : p ∈ [tn, p] := by simp
          have tntn : tn ∈ [tn, p] := by simp
          have L : StayT (wl [rd, p] G) (wl [tn, p] G) := wl_less.trans (wl_more ntn)
          have rdW : wl [tn, p] G rd = some (.lst vs) := by rw [wl_out (by simp [tn_rd.symm, rd_p])]; exact hrd
          refine ⟨_, rfl, rd, rfl, ⟨_, SqL.of (by rw [upd_ne tn_rd.symm]; exact hrd)⟩, ?_⟩
          have S5 := S.trans L
          have homG := hom5.stay L
          have hesG := hes.stay L
          refine for_it (walk_list (xs := vs)) (fun i σ G2 => ∃ (us : List V) (fs : List (Str × Str)) (v8 : Option V), σ = [some (.ref p), some (.int (mm : Nat)), some (.ref an), some (.ref hm), some (.ref rd), v5, v6, some (.ref tn), v8, none] ∧ StayT (wl [tn, p] G) (wl [tn, p] G2) ∧ G2 tn = some (.lst us) ∧ DVs (wl [tn, p] G2) us (fs.map pairOf) ∧ fs.length = i ∧ Turned es fs ∧ Purse G2 p (b + 40 + i)) ?h0 ?hG ?hs ?hd
          case h0 =>
            refine ⟨[], [], none, rfl, ?_, upd_same, .nil, rfl, (fun _ _ z => by simp at z), hpG.upd tn_p⟩
            rw [wl_upd_in tntn]; exact StayT.refl _
          case hG =>
            rintro i σ G2 hi ⟨us, fs, v8, rfl, U, _⟩
            exact SqL.of (wl_some (U.same _ _ rdW fun _ z => nomatch z)).2
          case hs =>
            rintro i x σ _ G2 hi ⟨us, fs, v8, rfl, U, htn, hfs, hfl, prf, hpG2⟩ ⟨rfl, hx⟩
            have hi' : i < 11 := by omega
            obtain ⟨d, hd0, hdx⟩ := (hesG.stay U).get hx
            obtain ⟨⟨w1, w2⟩, hq0, rfl⟩ : ∃ q, es[i]? = some q ∧ pairOf q = d := by
              rw [List.getElem?_map] at hd0
              cases hq : es[i]? with
              | none => rw [hq] at hd0; cases hd0
              | some q => rw [hq] at hd0; exact ⟨q, rfl, Option.some.inj hd0⟩
            obtain ⟨m1, m2, _⟩ := gd.1 _ (List.mem_of_getElem? hq0)
            have hw1 : w1 ∈ stock := inns _ m1
            have hw2 : w2 ∈ stock := inns _ m2
            obtain ⟨ra, xs, rfl, hra, hxs, _⟩ := dv_tup hdx
            cases hxs with
            | @cons va xs1 d1 ds1 ha t0 =>
            cases t0 with
            | @cons vb xs2 d2 ds2 hb t1 =>
            cases t1
            cases dv_str ha
            cases dv_str hb
            refine ⟨_, rfl, tyV_lst htn, _, rfl, _, rfl, ra, _, _, rfl, SqT.of (wl_some hra).2, fun tq ntq => ?_⟩
            have tq_p : tq ≠ p := hpG2.ne ntq
            have tq_tn : tq ≠ tn := fun z => by rw [z, htn] at ntq; cases ntq
            have dq : DV (wl [tn, p] (upd G2 tq (.tup [.str w2, .str w1]))) (.ref tq) (.tuple [.str w2, .str w1]) := dv_made ntq (by simp [tq_tn, tq_p]) (.two (dv_word hw2) (dv_word hw1)) (by show 2 ≤ 1000; decide)
            have T1 := wl_alloc (ms := [tn, p]) (o := .tup [.str w2, .str w1]) ntq
            refine ⟨by show 2 ≤ sizeLine; decide, fun ql nql => ?_⟩
            have htn1 : upd G2 tq (.tup [.str w2, .str w1]) tn = some (.lst us) := by rw [upd_ne tq_tn.symm]; exact htn
            have hpG3 := hpG2.upd (o := .tup [.str w2, .str w1]) tq_p
            have hdx1 := hdx.stay T1
            have hfs1 := hfs.stay T1
            have U1 := U.trans T1
            generalize upd G2 tq (.tup [.str w2, .str w1]) = G3 at dq nql htn1 hpG3 hdx1 hfs1 U1
            have ql_p : ql ≠ p := hpG3.ne nql
            have ql_tn : ql ≠ tn := fun z => by rw [z, htn1] at nql; cases nql
            refine ⟨_, rfl, p, 2, _, rfl, hpG3.upd ql_p, by omega, by omega, by omega, fun G4 r4 t4 hpG4 hr4 => ?_⟩
            have T4 := (wl_alloc (ms := [tn, p]) (o := .lst [.ref ra, .ref tq]) nql).trans (wl_draw t4 ptn)
            have htn4 := drawn_keeps t4 tn_p (show upd G3 ql (.lst [.ref ra, .ref tq]) tn = some (.lst us) by rw [upd_ne ql_tn.symm]; exact htn1)
            have both : ∀ v q, DV (wl [tn, p] G4) v (pairOf q) → (q = (w1, w2) ∨ q = (w2, w1)) → _ := fun v q hv pe => (⟨us ++ [v], fs ++ [q], _, rfl, by rw [wl_upd_in tntn]; exact U1.trans T4, upd_same, by rw [wl_upd_in tntn, List.map_append]; exact (hfs1.stay T4).snoc hv, by simp [hfl], turned_snoc prf (by rw [hfl]; exact hq0) pe, (hpG4.upd tn_p).mono (by omega)⟩ :
              ∃ (us' : List V) (fs : List (Str × Str)) (w8 : Option V), [some (.ref p), some (.int (mm : Nat)), some (.ref an), some (.ref hm), some (.ref rd), v5, v6, some (.ref tn), some (.ref ra), none] = [some (.ref p), some (.int (mm : Nat)), some (.ref an), some (.ref hm), some (.ref rd), v5, v6, some (.ref tn), w8, none] ∧ StayT (wl [tn, p] G) (wl [tn, p] (upd G4 tn (.lst (us ++ [v])))) ∧ upd G4 tn (.lst (us ++ [v])) tn = some (.lst us') ∧ DVs (wl [tn, p] (upd G4 tn (.lst (us ++ [v])))) us' (fs.map pairOf) ∧ fs.length = i + 1 ∧ Turned es fs ∧ Purse (upd G4 tn (.lst (us ++ [v]))) p (b + 40 + (i + 1)))
            have h4 : G4 ql = some (.lst [.ref ra, .ref tq]) := drawn_keeps t4 ql_p upd_same
            have d1 := hdx1.stay T4
            have d2 := dq.stay T4
            have lu : us.length < sizeLine := by
              have : us.length = (fs.map pairOf).length := hfs.length
              rw [List.length_map] at this
              exact Nat.lt_of_le_of_lt (show us.length ≤ 11 by omega) (by decide)
            refine pick_any h4 (.two d1.out d2.out) (by show 2 ≤ 1000; decide) hr4 fun v e he hv => ⟨tn, us, v, rfl, rfl, htn4, lu, ?_⟩
            have mm : ∀ m ∈ [tn, p], ∃ xs, G4 m = some (.lst xs) := fun m hm => by
              simp at hm
              rcases hm with rfl | rfl
              · exact ⟨_, htn4⟩
              · obtain ⟨n1, n2, n3, e1, _⟩ := hpG4
                exact ⟨_, e1⟩
            simp at he
            rcases he with rfl | rfl
            · exact both v (w1, w2) (pair_wl hv ⟨w1, w2, hw1, hw2, rfl⟩ mm) (.inl rfl)
            · exact both v (w2, w1) (pair_wl hv ⟨w2, w1, hw2, hw1, rfl⟩ mm) (.inr rfl)
          case hd =>
            rintro σ G2 ⟨us, fs, v8, rfl, U, htn, hfs, hfl, prf, hpG2⟩
            refine ⟨_, rfl, _, rfl, tn, us, rfl, .inl ⟨SqL.of htn, fun tt ntt => ?_⟩⟩
            have tt_p : tt ≠ p := hpG2.ne ntt
            have tt_tn : tt ≠ tn := fun z => by rw [z, htn] at ntt; cases ntt
            refine ⟨by show 2 ≤ sizeLine; decide, fun tz ntz => ?_⟩
            have hpG3 := hpG2.upd (o := .tup us) tt_p
            have tz_p : tz ≠ p := hpG3.ne ntz
            have A1 : StayT (wl [tn, p] G2) (wl [p] (upd G2 tt (.tup us))) := wl_less.trans (wl_alloc ntt)
            have A2 := A1.trans (wl_alloc (ms := [p]) (o := .tup [.ref hm, .ref tt]) ntz)
            have d1 : DV (wl [p] (upd G2 tt (.tup us))) (.ref tt) (.tuple (fs.map pairOf)) := dv_made ntt (by simpa using tt_p) (hfs.stay wl_less) (by rw [List.length_map]; omega)
            have d0 := (homG.stay U).stay A1
            refine q _ _ (.tuple [.tuple ds, .tuple (fs.map pairOf)]) (S2.trans (S5.trans (U.trans A2))) ((hpG3.upd tz_p).mono (by omega)) (dv_made ntz (by simpa using tz_p) (.two d0 d1) (by show 2 ≤ 1000; decide)) ⟨ds, fs.map pairOf, rfl, hl8, by rw [List.length_map]; omega, hom, good_pairs (good_turned gd prf) inns⟩ ?_
            cases ds with
            | nil => rw [← nms] at lns; simp at lns; omega
            | cons d0 dl => exact town_good hom (by rw [nms]; exact ndn) (by rw [nms]; exact good_turned gd prf)
end
end WR
namespace WR
open PySem PySem.Spec PyProof.Rows L2
section
variable {P : Program} {w : World} {K : PySem.W.Frag} {mg : Str → Option Value} {base : Heap} {f : Addr} {fd : FuncData} {T : Addr}
/-! ### _law_standing -/
abbrev s_law_standing : Stmt := topS 33
abbrev N_law_standing : List Str := ["purse", "town", "hands", "found", "hand", "held"]
abbrev P_law_standing : List Str := ["purse", "town"]
theorem sc_law_standing : FnScope N_law_standing P_law_standing (defScope s_law_standing) := ⟨rfl, rfl, rfl, by decide +kernel, rfl, by decide +kernel, by decide +kernel⟩

def sp_law_standing : Sp := fun vs H Q _ => ∃ (p : Addr) (b : Nat) (vt : V) (t : PyData), vs = [.ref p, vt] ∧ Purse H p b ∧ b ≤ 800000 ∧ DV (wl [p] H) vt t ∧ TownD t ∧ ∀ H' v d, StayT (wl [p] H) (wl [p] H') → Purse H' p (b + 100) → DV (wl [p] H') v d → StandD d → standingWrong t d = .none → Q v H'
theorem ok_law_standing (F : FnP K "_law_standing" s_law_standing f fd) (fr : Free mg) (c_law_draw : Cal P w K mg base "_law_draw" 2 P_law_draw sp_law_draw) (c_law_words : Cal P w K mg base "_law_words" 3 P_law_words sp_law_words) : FnOk P w K mg base (L2.CX P w) 4 f fd P_law_standing sp_law_standing := by
  refine F.ok sc_law_standing (fun vs H Q E h => ?_) (fun cdv A outer s H vs Q E hr h => ⟨_, PSs.nox (pss_cons (ps_set (i := 2) sc_law_standing.nd rfl (Or.inl rfl) (pe_F c_law_words (hr.mono (by omega)) (pa_cons (pv 0) (pa_cons (pe_callB call_lenD' (by rfl) (fr "len" (by decide)) (by decide +kernel) (pa_cons (pe_ix ix_D (pv 1) pe_int (fun _ _ => rfl)) pa_nil)) pa_nil))))
    (pss_cons (ps_set (i := 3) sc_law_standing.nd rfl (Or.inl rfl) (pe_lst pa_nil))
    (pss_cons (ps_for PassesOwn.never rfl (pi_list (pv 2)) (pg_name (i := 4) sc_law_standing.nd rfl (Or.inl rfl)) (pss_cons (ps_set (i := 5) sc_law_standing.nd rfl (Or.inl rfl) (pe_tup (pa_cons (pv 4) (pa_cons (pe_ix ix_D (pe_lst (pa_cons pe_int (pa_cons pe_int (pa_cons pe_int (pa_cons pe_int (pa_cons pe_int (pa_cons (pe_op op_pow pe_int pe_int) pa_nil))))))) (pe_F c_law_draw (hr.mono (by omega)) (pa_cons (pv 0) (pa_cons pe_int pa_nil))) (fun _ _ => rfl)) pa_nil))))
    (pss_one (ps_expr (pe_bm PySem.F.plainAttrs_list PySem.F.slot_list_append PySem.F.type_list_append mt_append (pv 3) (pa_cons (pe_ix ix_D (pe_lst (pa_cons (pv 5) (pa_cons (pv 5) (pa_cons (pv 5) (pa_cons (pv 5) (pa_cons (pe_tup pa_nil) pa_nil)))))) (pe_F c_law_draw (hr.mono (by omega)) (pa_cons (pv 0) (pa_cons pe_int pa_nil))) (fun _ _ => rfl)) pa_nil))))))
    (pss_one (ps_ret (pe_callTy call_tuple_of (by rfl) (fr "tuple" (by decide)) (by decide +kernel) (pa_cons (pv 3) pa_nil))))))), ?_⟩)
  · obtain ⟨p, b, vt, t, rfl, _⟩ := h; rfl
  · obtain ⟨p, b, vt, t, rfl, hp, hb, ht, ⟨hs, rs, rfl, hs8, _, _, _⟩, q⟩ := h
    have pm : p ∈ [p] := List.mem_singleton.mpr rfl
    refine ⟨_, rfl, _, rfl, _, _, 0, ht.out, rfl, rfl, fun v0 hv0 => ⟨_, _, hs.length, rfl, hv0, rfl, p, hs.length, b, rfl, hp, by omega, by omega, fun H2 an ns s2 hp2 nan han lns inns ndn => ?_⟩⟩
    have S2 : StayT (wl [p] H) (wl [p] H2) := wl_draw s2 pm
    have an_p : an ≠ p := hp.ne nan
    have han2 : wl [p] H2 an = some (.lst (ns.map V.str)) := by rw [wl_out (by simpa using an_p)]; exact han
    replace hp2 : Purse H2 p (b + 8) := hp2.mono (by omega)
    refine ⟨by show 0 ≤ sizeLine; decide, fun tn ntn => ?_⟩
    have tn_p : tn ≠ p := hp2.ne ntn
    have tn_an : tn ≠ an := fun z => by rw [z, han] at ntn; cases ntn
    have ptn : p ∈ [tn, p] := by simp
    have tntn : tn ∈ [tn, p] := by simp
    refine ⟨_, rfl, an, rfl, ⟨_, SqL.of (by rw [upd_ne tn_an.symm]; exact han)⟩, ?_⟩
    refine for_it (walk_list (xs := ns.map V.str)) (fun i σ G2 => ∃ (us : List V) (fs : List PyData) (v4 v5 : Option V), σ = [some (.ref p), some vt, some (.ref an), some (.ref tn), v4, v5] ∧ StayT (wl [p] H2) (wl [tn, p] G2) ∧ G2 tn = some (.lst us) ∧ DVs (wl [tn, p] G2) us fs ∧ fs.length = i ∧ (∀ d ∈ fs, HomeD d ∨ d = .tuple []) ∧ Purse G2 p (b + 8 + 2 * i) ∧ List.Sublist ((fs.filter fun d => !isUnit d).map entryName) (ns.take i)) ?h0 ?hG ?hs ?hd
    case h0 =>
      refine ⟨[], [], none, none, rfl, ?_, upd_same, .nil, rfl, (fun _ z => by cases z), hp2.upd tn_p, List.Sublist.refl _⟩
      rw [wl_upd_in tntn]; exact wl_more ntn
    case hG =>
      rintro i σ G2 hi ⟨us, fs, v4, v5, rfl, U, _⟩
      exact SqL.of (wl_some (U.same _ _ han2 fun _ z => nomatch z)).2
    case hs =>
      rintro i x σ _ G2 hi ⟨us, fs, v4, v5, rfl, U, htn, hfs, hfl, prf, hpG2, sub⟩ ⟨rfl, hx⟩
      have hi' : i < ns.length := by simpa using hi
      have hx' : x = .str ns[i] := by simpa [hi'] using hx.symm
      subst hx'
      have iw := inns _ (List.getElem_mem hi')
      have tk : ns.take (i + 1) = ns.take i ++ [ns[i]] := by rw [List.take_add_one, List.getElem?_eq_getElem hi']; rfl
      generalize ns[i] = nm at iw tk
      refine ⟨_, rfl, _, _, rfl, rfl, ⟨by decide, by decide, by decide⟩, by show 6 ≤ sizeLine; decide, fun ql nql => ?_⟩
      have ql_p : ql ≠ p := hpG2.ne nql
      have ql_tn : ql ≠ tn := fun z => by rw [z, htn] at nql; cases nql
      refine ⟨_, rfl, p, 6, _, rfl, hpG2.upd ql_p, by omega, by omega, by omega, fun G3 r3 t3 hpG3 hr3 => ?_⟩
      have T3 := (wl_alloc (ms := [tn, p]) nql).trans (wl_draw t3 ptn)
      have htn3 := drawn_keeps t3 tn_p (show upd G2 ql _ tn = some (.lst us) by rw [upd_ne ql_tn.symm]; exact htn)
      refine pick_int (l := [0, 0, 1, 2, 4, (10 : Int) ^ (6 : Int).toNat]) (drawn_keeps t3 ql_p upd_same) (by show 6 ≤ 1000; decide) hr3 fun j hj => ⟨by show 2 ≤ sizeLine; decide, fun tp ntp => ?_⟩
      obtain ⟨jn, rfl, jb⟩ : ∃ jn : Nat, j = jn ∧ jn ∈ coins := by
        have : ∀ j ∈ ([0, 0, 1, 2, 4, (10 : Int) ^ (6 : Int).toNat] : List Int), j = (j.toNat : Int) ∧ j.toNat ∈ coins := by decide
        exact ⟨j.toNat, this j hj⟩
      have tp_p : tp ≠ p := hpG3.ne ntp
      have tp_tn : tp ≠ tn := fun z => by rw [z, htn3] at ntp; cases ntp
      have hm : HomeD (.tuple [.str nm, .int jn]) := ⟨nm, iw, jn, jb, rfl⟩
      have dh : DV (wl [tn, p] (upd G3 tp (.tup [.str nm, .int jn]))) (.ref tp) (.tuple [.str nm, .int jn]) := dv_made ntp (by simp [tp_tn, tp_p]) (.two (dv_word iw) (.int _)) (by show 2 ≤ 1000; decide)
      have htn4 : upd G3 tp (.tup [.str nm, .int jn]) tn = some (.lst us) := by rw [upd_ne tp_tn.symm]; exact htn3
      have hpG4 := hpG3.upd (o := .tup [.str nm, .int jn]) tp_p
      have T4 := T3.trans (wl_alloc (ms := [tn, p]) (o := .tup [.str nm, .int jn]) ntp)
      have hfs4 := hfs.stay T4
      have U4 := U.trans T4
      generalize upd G3 tp (.tup [.str nm, .int jn]) = G4 at dh htn4 hpG4 hfs4 U4
      refine ⟨_, rfl, tyV_lst htn4, _, rfl, _, rfl, _, rfl, _, rfl, by show 0 ≤ sizeLine; decide, fun tu ntu => ⟨by show 5 ≤ sizeLine; decide, fun qm nqm => ?_⟩⟩
      have tu_p : tu ≠ p := hpG4.ne ntu
      have tu_tn : tu ≠ tn := fun z => by rw [z, htn4] at ntu; cases ntu
      have du : DV (wl [tn, p] (upd G4 tu (.tup []))) (.ref tu) (.tuple []) := dv_made ntu (by simp [tu_tn, tu_p]) .nil (by show 0 ≤ 1000; decide)
      have T5 := wl_alloc (ms := [tn, p]) (o := .tup []) ntu
      have htn5 : upd G4 tu (.tup []) tn = some (.lst us) := by rw [upd_ne tu_tn.symm]; exact htn4
      have hpG5 := hpG4.upd (o := .tup []) tu_p
      have dh5 := dh.stay T5
      have hfs5 := hfs4.stay T5
      have U5 := U4.trans T5
      generalize upd G4 tu (.tup []) = G5 at du nqm htn5 hpG5 dh5 hfs5 U5
      have qm_p : qm ≠ p := hpG5.ne nqm
      have qm_tn : qm ≠ tn := fun z => by rw [z, htn5] at nqm; cases nqm
      refine ⟨_, rfl, p, 5, _, rfl, hpG5.upd qm_p, by omega, by omega, by omega, fun G6 r6 t6 hpG6 hr6 => ?_⟩
      have T6 := (wl_alloc (ms := [tn, p]) (o := .lst [.ref tp, .ref tp, .ref tp, .ref tp, .ref tu]) nqm).trans (wl_draw t6 ptn)
      have htn6 := drawn_keeps t6 tn_p (show upd G5 qm (.lst [.ref tp, .ref tp, .ref tp, .ref tp, .ref tu]) tn = some (.lst us) by rw [upd_ne qm_tn.symm]; exact htn5)
      have dh6 := dh5.stay T6
      have du6 := du.stay T6
      have lu : us.length < sizeLine := by
        have : us.length = fs.length := hfs.length
        exact Nat.lt_of_le_of_lt (show us.length ≤ 12 by omega) (by decide)
      refine pick_any (ds := [.tuple [.str nm, .int jn], .tuple [.str nm, .int jn], .tuple [.str nm, .int jn], .tuple [.str nm, .int jn], .tuple []]) (drawn_keeps t6 qm_p upd_same) (.cons dh6.out (.cons dh6.out (.cons dh6.out (.cons dh6.out (.one du6.out))))) (by show 5 ≤ 1000; decide) hr6 fun v e he hv => ⟨tn, us, v, rfl, rfl, htn6, lu, ?_⟩
      have pe : HomeD e ∨ e = .tuple [] := by
        simp at he
        rcases he with rfl | rfl
        · exact .inl hm
        · exact .inr rfl
      have dv := stand_wl (ms := [tn, p]) hv pe fun m hm => by
        simp at hm
        rcases hm with rfl | rfl
        · exact ⟨_, htn6⟩
        · obtain ⟨n1, n2, n3, e1, _⟩ := hpG6
          exact ⟨_, e1⟩
      refine ⟨us ++ [v], fs ++ [e], _, _, rfl, ?_, upd_same, ?_, by simp [hfl], all_snoc prf pe, (hpG6.upd tn_p).mono (by omega), ?_⟩
      · rw [wl_upd_in tntn]; exact U5.trans T6
      · rw [wl_upd_in tntn]; exact (hfs5.stay T6).snoc dv
      · rw [tk, List.filter_append, List.map_append]
        simp at he
        rcases he with rfl | rfl
        · exact sub.append (List.Sublist.refl _)
        · exact sub.append (List.nil_sublist _)
    case hd =>
      rintro σ G2 ⟨us, fs, v4, v5, rfl, U, htn, hfs, hfl, prf, hpG2, sub⟩
      rw [List.length_map] at hfl hpG2 sub
      rw [List.take_length] at sub
      refine ⟨_, rfl, tn, us, rfl, .inl ⟨SqL.of htn, fun tt ntt => ?_⟩⟩
      have tt_p : tt ≠ p := hpG2.ne ntt
      refine q _ _ _ (S2.trans (U.trans (wl_less.trans (wl_alloc ntt)))) ((hpG2.upd tt_p).mono (by omega)) (dv_made ntt (by simpa using tt_p) (hfs.stay wl_less) (by omega)) ⟨fs, rfl, by omega, prf⟩ ?_
      show (if fs.length = hs.length then badHand 0 [] fs else PyData.tuple [.str "standing"]) = PyData.none
      rw [if_pos (by omega)]
      refine badHand_ok fs 0 [] (fun d hd => ?_) (by simpa using sub.nodup ndn)
      rcases prf d hd with z | rfl
      · exact .inr (home_entry z)
      · exact .inl rfl
end
end WR
namespace WR
open PySem PySem.Spec PyProof.Rows L2
section
variable {P : Program} {w : World} {K : PySem.W.Frag} {mg : Str → Option Value} {base : Heap} {f : Addr} {fd : FuncData} {T : Addr}
/-! ### _law_is_whole -/
abbrev s_law_is_whole : Stmt := topS 35
abbrev N_law_is_whole : List Str := ["thing"]
abbrev P_law_is_whole : List Str := ["thing"]
theorem sc_law_is_whole : FnScope N_law_is_whole P_law_is_whole (defScope s_law_is_whole) := ⟨rfl, rfl, rfl, by decide +kernel, rfl, by decide +kernel, by decide +kernel⟩

def sp_law_is_whole : Sp := fun vs H Q _ => ∃ v d, vs = [v] ∧ DV H v d ∧ Q (.bl (isWhole d && fromZero d)) H
theorem ok_law_is_whole (F : FnP K "_law_is_whole" s_law_is_whole f fd) (fr : Free mg) : FnOk P w K mg base (L2.CX P w) 1 f fd P_law_is_whole sp_law_is_whole := by
  refine F.ok sc_law_is_whole (fun vs H Q E h => ?_) (fun cdv A outer s H vs Q E hr h => ⟨_, PSs.nox (pss_one (ps_ret (pe_and (pe_callB call_isD (by rfl) (fr "isinstance" (by decide)) (by decide +kernel) (pa_cons (pv 0) (pa_cons (pe_ty (n := "int") fr) pa_nil))) (pe_and (pe_not (pe_callB call_isD (by rfl) (fr "isinstance" (by decide)) (by decide +kernel) (pa_cons (pv 0) (pa_cons (pe_ty (n := "bool") fr) pa_nil)))) (pe_one (pe_cmpR op_ge (pv 0) pe_int (nomark _))))))), ?_⟩)
  · obtain ⟨v, d, rfl, _⟩ := h; rfl
  · obtain ⟨v, d, rfl, hd, q⟩ := h
    refine ⟨v, rfl, v, "int", d, rfl, hd, .inl rfl, _, rfl, ?_⟩
    cases ea : isD "int" d with
    | false => exact iteF (by have : isWhole d = false := by simp [isWhole, ea]
                              rw [this] at q; exact q)
    | true =>
      refine iteT ⟨v, rfl, v, "bool", d, rfl, hd, .inr (.inl rfl), _, rfl, _, rfl, ?_⟩
      cases eb : isD "bool" d with
      | true => exact iteF (by have : isWhole d = false := by simp [isWhole, eb]
                               rw [this] at q; exact q)
      | false =>
        have ew : isWhole d = true := by simp [isWhole, ea, eb]
        obtain ⟨i, rfl⟩ := isWhole_int ew
        cases dv_int hd
        refine iteT ⟨_, rfl, _, _, rfl, rfl, ?_⟩
        rw [ew] at q
        exact q
/-! ### _law_is_name -/
abbrev s_law_is_name : Stmt := topS 34
abbrev N_law_is_name : List Str := ["thing", "small", "sign"]
abbrev P_law_is_name : List Str := ["thing"]
theorem sc_law_is_name : FnScope N_law_is_name P_law_is_name (defScope s_law_is_name) := ⟨rfl, rfl, rfl, by decide +kernel, rfl, by decide +kernel, by decide +kernel⟩

def sp_law_is_name : Sp := fun vs H Q _ => ∃ v d, vs = [v] ∧ DV H v d ∧ ∀ H', StayT H H' → Q (.bl (isName d)) H'
theorem ok_law_is_name (F : FnP K "_law_is_name" s_law_is_name f fd) (fr : Free mg) : FnOk P w K mg base (L2.CX P w) 1 f fd P_law_is_name sp_law_is_name := by
  refine F.ok sc_law_is_name (fun vs H Q E h => ?_) (fun cdv A outer s H vs Q E hr h => ⟨_, PSs.nox (pss_cons (ps_set (i := 1) sc_law_is_name.nd rfl (Or.inr rfl) pe_str)
    (pss_cons (ps_if (PW.pt (pw_or (pt_not (pt_val (pe_callB call_isD (by rfl) (fr "isinstance" (by decide)) (by decide +kernel) (pa_cons (pv 0) (pa_cons (pe_ty (n := "str") fr) pa_nil))))) (pw_or (pt_not (pt_chain op_lt op_lt pe_int (pe_callB call_lenD' (by rfl) (fr "len" (by decide)) (by decide +kernel) (pa_cons (pv 0) pa_nil)) pe_int)) (pw_or1 (pt_cmpR op_notIn_sign (pe_ix ix_D (pv 0) pe_int (fun _ _ => rfl)) (pv 1) rfl))))) (pss_one (ps_ret pe_bl)) pss_nil)
    (pss_one (ps_ret (pe_cmpR (op_eqL hr.units0) (pe_lc (own := [("sign", 2)]) (g := gName 2) rfl sc_law_is_name.nd (pi_str (pv 0)) (blkOk_by (N := N_law_is_name) (sc := defScope s_law_is_name) (by decide +kernel)) (fun _ _ _ _ _ => (pg_name (i := 2) sc_law_is_name.nd rfl (Or.inl rfl))) (fun _ _ _ _ _ => by exact (pts_one (pt_cmpR op_notIn_sign (pv 2) (pe_op op_add_str (pv 1) pe_str) rfl))) (fun _ _ _ _ _ => by exact (pv 2))) (pe_lst pa_nil) (nomark _)))))), ?_⟩)
  · obtain ⟨v, d, rfl, _⟩ := h; rfl
  · obtain ⟨v, d, rfl, hd, q⟩ := h
    have no : isName d = false → ∀ (D : Ends) (σ : L2.St), D.rt = Q → tRet (tC (.bl false)) D σ H := fun z D σ eD => by
      have q2 := q H (StayT.refl H)
      rw [z] at q2
      show D.rt (.bl false) H
      rw [eD]; exact q2
    refine ⟨v, rfl, v, "str", d, rfl, hd, .inr (.inr (.inl rfl)), _, rfl, ?_⟩
    by_cases ds : ∃ x, d = .str x
    case neg =>
      have z : isD "str" d = false := by
        cases d with
        | str x => exact absurd ⟨x, rfl⟩ ds
        | _ => rfl
      rw [z]
      refine iteT (no ?_ _ _ rfl)
      cases d with
      | str x => exact absurd ⟨x, rfl⟩ ds
      | _ => rfl
    obtain ⟨x, rfl⟩ := ds
    refine iteF ⟨v, rfl, v, _, x.length, rfl, hd, rfl, _, _, rfl, rfl, _, rfl, ?_⟩
    have hx8 : x.length ≤ 1000 := by cases hd with | str hl _ => exact hl
    by_cases l1 : 1 ≤ x.length
    case neg =>
      rw [decide_eq_false (show ¬ ((0 : Int) < (x.length : Nat)) by omega)]
      refine iteF ⟨_, rfl, iteT (no (by simp [isName, isNameS, l1]) _ _ rfl)⟩
    rw [decide_eq_true (show (0 : Int) < (x.length : Nat) by omega)]
    refine iteT ⟨_, _, rfl, rfl, _, rfl, ?_⟩
    by_cases l2 : x.length ≤ 8
    case neg =>
      rw [decide_eq_false (show ¬ ((x.length : Nat) < (9 : Int)) by omega)]
      refine iteT (no (by simp [isName, isNameS, l2]) _ _ rfl)
    rw [decide_eq_true (show (x.length : Nat) < (9 : Int) by omega)]
    obtain ⟨c0, hc0⟩ : ∃ c0, x.cps[0]? = some c0 := ⟨x.cps[0], Array.getElem?_eq_getElem l1⟩
    refine iteF ⟨v, rfl, .str x, .str ⟨#[c0]⟩, 0, hd, rfl, by simp [itemD, hc0], fun v2 hv2 => ?_⟩
    cases dv_str hv2
    refine ⟨_, rfl, c0, _, rfl, rfl, _, rfl, ?_⟩
    have key : isName (.str x) = (decide (c0 ∈ letters.cps.toList) && x.cps.toList.all (fun c => decide (c ∈ signs.cps.toList))) := by
      simp [isName, isNameS, l1, l2, hc0]
    show if (!decide (c0 ∈ letters.cps.toList)) = true then _ else _
    cases e : decide (c0 ∈ letters.cps.toList) with
    | false => exact iteT (no (by rw [key, e]; rfl) _ _ rfl)
    | true =>
    rw [key, e, Bool.true_and] at q
    cases dv_str hd
    have cat : letters ++ "0123456789" = signs := by decide +kernel
    refine iteF ⟨_, rfl, x, rfl, fun D nD => ?_⟩
    refine lc_it walk_str (fun i H1 => StayT H H1 ∧ ∃ vs : List V, H1 D = some (.lst vs) ∧ vs.length ≤ i ∧ vs.isEmpty = (x.cps.toList.take i).all (fun c => decide (c ∈ signs.cps.toList))) ?h0 ?hG ?hs ?hd
    case h0 => exact ⟨(StayT.refl H).new nD, [], upd_same, Nat.le_refl _, rfl⟩
    case hG => intros; trivial
    case hs =>
      rintro i y _ H1 hi ⟨s1, vs, hD, hl, hb⟩ ⟨rfl, c, hc, rfl⟩
      have tk : x.cps.toList.take (i + 1) = x.cps.toList.take i ++ [c] := by
        rw [List.take_add_one]
        have : x.cps.toList[i]? = some c := by rw [Array.getElem?_toList]; exact hc
        rw [this]; rfl
      refine ⟨rfl, _, rfl, _, rfl, _, _, rfl, rfl, ?_, ?_⟩
      · show letters.length + (Str.ofString "0123456789").length ≤ sizeLine
        decide +kernel
      refine ⟨c, letters ++ "0123456789", rfl, rfl, _, rfl, ?_⟩
      rw [cat]
      cases ec : decide (c ∈ signs.cps.toList) with
      | true =>
        refine iteF ⟨s1, vs, hD, by omega, ?_⟩
        rw [tk, List.all_append, ← hb]
        simp only [List.all_cons, List.all_nil, ec, Bool.and_true]
      | false =>
        refine iteT ⟨_, rfl, vs, hD, ?_, s1.upd nD, vs ++ [.str ⟨#[c]⟩], upd_same, by simp; omega, ?_⟩
        · have hi2 : i < x.length := hi
          exact Nat.lt_of_le_of_lt (show vs.length ≤ 1000 by omega) (by decide)
        · rw [tk, List.all_append]
          simp only [List.all_cons, List.all_nil, ec, Bool.false_and, Bool.and_false]
          cases vs <;> rfl
    case hd =>
      rintro H1 ⟨s1, vs, hD, hl, hb⟩
      refine ⟨by show 0 ≤ sizeLine; decide, fun b nb => ⟨D, b, vs, rfl, rfl, ?_, upd_same, ?_⟩⟩
      · rw [upd_ne (ne_of_none hD nb)]; exact hD
      · have q2 := q _ (s1.new (o := .lst []) nb)
        have e2 : x.cps.toList.take x.cps.size = x.cps.toList := by rw [← Array.length_toList, List.take_length]
        rw [e2] at hb
        rw [← hb] at q2
        exact q2
end
end WR
namespace WR
open PySem PySem.Spec PyProof.Rows L2
def OkS (x : Str) : Prop := x.length ≤ 1000 ∧ PySem.PyData.strOk x = true
theorem dv_oks {H : Hp} {v : V} {x : Str} (h : DV H v (.str x)) : OkS x := by cases h with | str a b => exact ⟨a, b⟩
theorem dp_strs {K : PySem.W.Frag} {H : Hp} {a : Addr} {l : List Str} (e : H a = some (.lst (l.map V.str))) (h : ∀ x ∈ l, OkS x) (hl : l.length ≤ 1000) : Dp K H (.ref a) (.list (l.map PyData.str)) ∧ SeqAt.shaped (.list (l.map PyData.str)) = true := by
  have d : ∀ l : List Str, (∀ x ∈ l, OkS x) → DVs H (l.map V.str) (l.map PyData.str) ∧ PyData.hasDictAll (l.map PyData.str) = false ∧ PyData.depthAll (l.map PyData.str) = 0 := fun l => by
    induction l with
    | nil => exact fun _ => ⟨.nil, rfl, rfl⟩
    | cons a l ih =>
      intro h
      obtain ⟨i1, i2, i3⟩ := ih fun x hx => h x (List.mem_cons_of_mem _ hx)
      have ha := h a List.mem_cons_self
      refine ⟨.cons (.str ha.1 ha.2) i1, ?_, ?_⟩
      · simp only [List.map_cons, PyData.hasDictAll, i2, PyData.hasDict, Bool.or_self]
      · simp only [List.map_cons, PyData.depthAll, i3, PyData.depth, Nat.max_self]
  obtain ⟨d1, d2, d3⟩ := d l h
  have dv : DV H (.ref a) (.list (l.map PyData.str)) := .lst e d1 (by rw [List.length_map]; exact hl)
  have nd : (PyData.list (l.map PyData.str)).hasDict = false := by simp only [PyData.hasDict, d2]
  exact ⟨dv.dp nd, shaped_D dv nd (by simp only [PyData.depth, d3]; decide)⟩
theorem dp_str {K : PySem.W.Frag} {H : Hp} {x : Str} (h : OkS x) : Dp K H (.str x) (.str x) ∧ SeqAt.shaped (.str x) = true :=
  ⟨.str _, shaped_D (H := H) (.str h.1 h.2) rfl (Nat.zero_le _)⟩
theorem dp_two {K : PySem.W.Frag} {H : Hp} {v : V} {a b : Str} (h : DV H v (pairOf (a, b))) : Dp K H v (.tuple [.str a, .str b]) ∧ SeqAt.shaped (.tuple [.str a, .str b]) = true :=
  ⟨h.dp rfl, shaped_D h rfl (by show 1 ≤ 64; decide)⟩
theorem dp_twos {K : PySem.W.Frag} {H : Hp} {p : Addr} {vs : List V} {l : List (Str × Str)} (e : H p = some (.lst vs)) (h : DVs H vs (l.map pairOf)) (hl : l.length ≤ 1000) : Dp K H (.ref p) (.list (l.map pairOf)) ∧ SeqAt.shaped (.list (l.map pairOf)) = true := by
  have d : ∀ l : List (Str × Str), PyData.hasDictAll (l.map pairOf) = false ∧ PyData.depthAll (l.map pairOf) ≤ 1 := fun l => by
    induction l with
    | nil => exact ⟨rfl, Nat.zero_le _⟩
    | cons a l ih =>
      obtain ⟨i2, i3⟩ := ih
      refine ⟨?_, ?_⟩
      · rw [List.map_cons]; simp only [PyData.hasDictAll, i2, pairOf, PyData.hasDict, Bool.or_self]
      · rw [List.map_cons]; simp only [PyData.depthAll, pairOf, PyData.depth, Nat.max_self]; omega
  obtain ⟨d2, d3⟩ := d l
  have dv : DV H (.ref p) (.list (l.map pairOf)) := .lst e h (by rw [List.length_map]; exact hl)
  have nd : (PyData.list (l.map pairOf)).hasDict = false := by simp only [PyData.hasDict, d2]
  exact ⟨dv.dp nd, shaped_D dv nd (by simp only [PyData.depth]; omega)⟩
section
variable {P : Program} {w : World} {K : PySem.W.Frag} {mg : Str → Option Value} {base : Heap} {f : Addr} {fd : FuncData} {T : Addr}
/-! ### _law_town_due -/
abbrev s_law_town_due : Stmt := topS 36
abbrev N_law_town_due : List Str := ["thing", "names", "k", "home", "pairs", "road", "part", "one"]
abbrev P_law_town_due : List Str := ["thing"]
theorem sc_law_town_due : FnScope N_law_town_due P_law_town_due (defScope s_law_town_due) := ⟨rfl, rfl, rfl, by decide +kernel, rfl, by decide +kernel, by decide +kernel⟩

def sp_law_town_due : Sp := fun vs H Q _ => ∃ v d, vs = [v] ∧ DV H v d ∧ ∀ H' r, StayT H H' → DV H' r (townWrong d) → Q r H'
theorem ok_law_town_due (F : FnP K "_law_town_due" s_law_town_due f fd) (fr : Free mg) (c_law_is_name : Cal P w K mg base "_law_is_name" 1 P_law_is_name sp_law_is_name) (c_law_is_whole : Cal P w K mg base "_law_is_whole" 1 P_law_is_whole sp_law_is_whole) :
    FnOk P w K mg base (L2.CX P w) 2 f fd P_law_town_due sp_law_town_due := by
  refine F.ok sc_law_town_due (fun vs H Q E h => ?_) (fun cdv A outer s H vs Q E hr h => ⟨_, PSs.nox (pss_cons (ps_if (PW.pt (pw_or (pt_not (pt_val (pe_callB call_isD (by rfl) (fr "isinstance" (by decide)) (by decide +kernel) (pa_cons (pv 0) (pa_cons (pe_ty (n := "tuple") fr) pa_nil))))) (pw_or (pt_cmpR op_ne (pe_callB call_lenD' (by rfl) (fr "len" (by decide)) (by decide +kernel) (pa_cons (pv 0) pa_nil)) pe_int (nomark _)) (pw_or1 (pt_cmpR (op_eqU hr.units0) (pe_ix ix_K (pv 0) pe_int (fun _ _ => rfl)) (pe_tup pa_nil) (nomark _)))))) (pss_one (ps_ret (pe_tup (pa_cons pe_str pa_nil)))) pss_nil)
    (pss_cons (ps_if (pt_cmpR (op_neL hr.units0) (pe_lc (own := [("part", 6)]) (g := gName 6) rfl sc_law_town_due.nd (pi_tup (pv 0)) (blkOk_by (N := N_law_town_due) (sc := defScope s_law_town_due) (by decide +kernel)) (fun _ _ _ _ _ => (pg_name (i := 6) sc_law_town_due.nd rfl (Or.inl rfl))) (fun _ _ _ _ _ => by exact (pts_one (pt_not (pt_val (pe_callB call_isD (by rfl) (fr "isinstance" (by decide)) (by decide +kernel) (pa_cons (pv 6) (pa_cons (pe_ty (n := "tuple") fr) pa_nil))))))) (fun _ _ _ _ _ => by exact (pv 6))) (pe_lst pa_nil) (nomark _)) (pss_one (ps_ret (pe_tup (pa_cons pe_str pa_nil)))) pss_nil)
    (pss_cons (ps_set (i := 1) sc_law_town_due.nd rfl (Or.inr rfl) (pe_lst pa_nil))
    (pss_cons (ps_for PassesOwn.never rfl (pi_enumT rfl (fr "enumerate" (by decide)) (pa_cons (pe_ix ix_K (pv 0) pe_int (fun _ _ => rfl)) pa_nil)) (pg_tup rfl (pgs_cons (pg_name (i := 2) sc_law_town_due.nd rfl (Or.inl rfl)) (pgs_cons (pg_name (i := 3) sc_law_town_due.nd rfl (Or.inl rfl)) pgs_nil))) (pss_cons (ps_if (PW.pt (pw_or (pt_not (pt_val (pe_callB call_isD (by rfl) (fr "isinstance" (by decide)) (by decide +kernel) (pa_cons (pv 3) (pa_cons (pe_ty (n := "tuple") fr) pa_nil))))) (pw_or (pt_cmpR op_ne (pe_callB call_lenD' (by rfl) (fr "len" (by decide)) (by decide +kernel) (pa_cons (pv 3) pa_nil)) pe_int (nomark _)) (pw_or (pt_not (pt_val (pe_F c_law_is_name (hr.mono (by omega)) (pa_cons (pe_ix ix_D (pv 3) pe_int (fun _ _ => rfl)) pa_nil)))) (pw_or1 (pt_cmpR (inD_K (units1 hr)) (pe_ix ix_D (pv 3) pe_int (fun _ _ => rfl)) (pv 1) rfl)))))) (pss_one (ps_ret (pe_tup (pa_cons pe_str (pa_cons (pv 2) pa_nil))))) pss_nil)
    (pss_cons (ps_if (pt_not (pt_val (pe_F c_law_is_whole (hr.mono (by omega)) (pa_cons (pe_ix ix_D (pv 3) pe_int (fun _ _ => rfl)) pa_nil)))) (pss_one (ps_ret (pe_tup (pa_cons pe_str (pa_cons (pv 2) pa_nil))))) pss_nil)
    (pss_one (ps_expr (pe_bm PySem.F.plainAttrs_list PySem.F.slot_list_append PySem.F.type_list_append mt_append (pv 1) (pa_cons (pe_ix ix_D (pv 3) pe_int (fun _ _ => rfl)) pa_nil)))))))
    (pss_cons (ps_set (i := 4) sc_law_town_due.nd rfl (Or.inl rfl) (pe_lst pa_nil))
    (pss_cons (ps_for PassesOwn.never rfl (pi_enumT rfl (fr "enumerate" (by decide)) (pa_cons (pe_ix ix_K (pv 0) pe_int (fun _ _ => rfl)) pa_nil)) (pg_tup rfl (pgs_cons (pg_name (i := 2) sc_law_town_due.nd rfl (Or.inl rfl)) (pgs_cons (pg_name (i := 5) sc_law_town_due.nd rfl (Or.inl rfl)) pgs_nil))) (pss_cons (ps_if (PW.pt (pw_or (pt_not (pt_val (pe_callB call_isD (by rfl) (fr "isinstance" (by decide)) (by decide +kernel) (pa_cons (pv 5) (pa_cons (pe_ty (n := "tuple") fr) pa_nil))))) (pw_or1 (pt_cmpR op_ne (pe_callB call_lenD' (by rfl) (fr "len" (by decide)) (by decide +kernel) (pa_cons (pv 5) pa_nil)) pe_int (nomark _))))) (pss_one (ps_ret (pe_tup (pa_cons pe_str (pa_cons (pv 2) pa_nil))))) pss_nil)
    (pss_cons (ps_if (pt_cmpR (op_neL hr.units0) (pe_lc (own := [("one", 7)]) (g := gName 7) rfl sc_law_town_due.nd (pi_tup (pv 5)) (blkOk_by (N := N_law_town_due) (sc := defScope s_law_town_due) (by decide +kernel)) (fun _ _ _ _ _ => (pg_name (i := 7) sc_law_town_due.nd rfl (Or.inl rfl))) (fun _ _ _ _ _ => by exact (pts_one (pt_not (pt_val (pe_callB call_isD (by rfl) (fr "isinstance" (by decide)) (by decide +kernel) (pa_cons (pv 7) (pa_cons (pe_ty (n := "str") fr) pa_nil))))))) (fun _ _ _ _ _ => by exact (pv 7))) (pe_lst pa_nil) (nomark _)) (pss_one (ps_ret (pe_tup (pa_cons pe_str (pa_cons (pv 2) pa_nil))))) pss_nil)
    (pss_cons (ps_if (PW.pt (pw_or (pt_cmpR (op_neL hr.units0) (pe_lc (own := [("one", 7)]) (g := gName 7) rfl sc_law_town_due.nd (pi_tup (pv 5)) (blkOk_by (N := N_law_town_due) (sc := defScope s_law_town_due) (by decide +kernel)) (fun _ _ _ _ _ => (pg_name (i := 7) sc_law_town_due.nd rfl (Or.inl rfl))) (fun _ _ _ _ _ => by exact (pts_one (pt_cmpR (notInD_K (units1 hr)) (pv 7) (pv 1) rfl))) (fun _ _ _ _ _ => by exact (pv 7))) (pe_lst pa_nil) (nomark _)) (pw_or1 (pt_cmpR (op_eqDD hr.units) (pe_ix ix_D (pv 5) pe_int (fun _ _ => rfl)) (pe_ix ix_D (pv 5) pe_int (fun _ _ => rfl)) (nomark _))))) (pss_one (ps_ret (pe_tup (pa_cons pe_str (pa_cons (pv 2) pa_nil))))) pss_nil)
    (pss_cons (ps_if (PW.pt (pw_or (pt_cmpR (inD_K (units1 hr)) (pv 5) (pv 4) rfl) (pw_or1 (pt_cmpR (inD_K (units1 hr)) (revT_K (pv 5)) (pv 4) rfl)))) (pss_one (ps_ret (pe_tup (pa_cons pe_str (pa_cons (pv 2) pa_nil))))) pss_nil)
    (pss_one (ps_expr (pe_bm PySem.F.plainAttrs_list PySem.F.slot_list_append PySem.F.type_list_append mt_append (pv 4) (pa_cons (pv 5) pa_nil)))))))))
    (pss_one (ps_ret pe_non)))))))), ?_⟩)
  · obtain ⟨v, d, rfl, _⟩ := h; rfl
  · obtain ⟨v, d, rfl, hd, q⟩ := h
    have no : (∀ e l rs, d ≠ .tuple [.tuple (e :: l), .tuple rs]) → ∀ (D : Ends) (σ : L2.St) (H1 : Hp), StayT H H1 → D.rt = Q → tRet (tTup (tCons (tC (.str "town")) tNil)) D σ H1 := fun z D σ H1 s1 eD => by
      unfold tRet
      rw [eD]
      refine ⟨by show 1 ≤ sizeLine; decide, fun r hr2 => q _ _ (s1.new hr2) ?_⟩
      rw [town_not z]
      exact .tup upd_same (.one (.str (by decide +kernel) (by decide +kernel))) (by show 1 ≤ 1000; decide)
    refine ⟨v, rfl, v, "tuple", d, rfl, hd, .inr (.inr (.inr rfl)), _, rfl, ?_⟩
    cases ea : isD "tuple" d with
    | false => exact iteT (no (fun e l rs z => by rw [z] at ea; cases ea) _ _ _ (StayT.refl H) rfl)
    | true =>
    obtain ⟨dl, rfl⟩ := isD_tuple ea
    refine iteF ⟨v, rfl, v, _, dl.length, rfl, hd, rfl, rfl, _, rfl, ?_⟩
    have neTwo : ∀ n : Nat, (!decide (V.int (n : Nat) = V.int 2)) = !decide (n = 2) := fun n => by
      by_cases h : n = 2
      · subst h; rfl
      · have z : ¬ V.int (n : Nat) = V.int 2 := fun z => h (by injection z with z; omega)
        rw [decide_eq_false z, decide_eq_false h]
    rw [neTwo]
    by_cases h2 : dl.length = 2
    case neg =>
      rw [decide_eq_false h2]
      exact iteT (no (fun e l rs z => h2 (by cases z; rfl)) _ _ _ (StayT.refl H) rfl)
    rw [decide_eq_true h2]
    obtain ⟨a, b, rfl⟩ : ∃ a b, dl = [a, b] := by
      match dl, h2 with
      | [a, b], _ => exact ⟨a, b, rfl⟩
    obtain ⟨p, zs, rfl, hp, hzs, _⟩ := dv_tup hd
    cases hzs with
    | @cons va vs0 d0 ds0 ha t0 =>
    cases t0 with
    | @cons vb vs1 d1 ds1 hb t1 =>
    cases t1
    refine iteF ⟨_, rfl, .inr (.inl ⟨p, _, _, va, rfl, rfl, SqT.of hp, atI_nat (j := 0) rfl, by show 0 ≤ sizeLine; decide, fun u nu => ?_⟩)⟩
    have su := (StayT.refl H).new (o := .tup []) nu
    refine ⟨a, u, ha.stay su, rfl, upd_same, _, rfl, ?_⟩
    cases hu : isUnit a with
    | true =>
      refine iteT (no (fun e l rs z => ?_) _ _ _ su rfl)
      cases z
      cases hu
    | false =>
    have hp1 := su.same _ _ hp fun _ z => nomatch z
    refine iteF ⟨_, rfl, p, rfl, ⟨_, SqT.of hp1⟩, fun D nD => ?_⟩
    refine lc_sift (H := upd H u (.tup [])) (D := D) (walk_tup (xs := [va, vb])) (fun i => match i with
      | 0 => isD "tuple" a
      | _ => isD "tuple" b) nD (by show 6 < 8; decide) (by show 2 ≤ 1000; decide) (fun H1 s1 => SqT.of (s1.same _ _ hp1 fun _ z => nomatch z)) (fun i x H1 hi hx s1 R r => ?_) (fun H1 us s1 hD hem => ?_)
    · match i, hi with
      | 0, _ =>
        cases hx
        exact ⟨_, rfl, va, "tuple", a, rfl, (ha.stay su).stay s1, .inr (.inr (.inr rfl)), _, rfl, r⟩
      | 1, _ =>
        cases hx
        exact ⟨_, rfl, vb, "tuple", b, rfl, (hb.stay su).stay s1, .inr (.inr (.inr rfl)), _, rfl, r⟩
    replace hem : us.isEmpty = (isD "tuple" a && isD "tuple" b) := by rw [hem]; simp [List.range_succ]
    have s2 := su.trans s1
    refine ⟨by show 0 ≤ sizeLine; decide, fun ye nye => ⟨D, ye, us, rfl, rfl, by rw [upd_ne (ne_of_none hD nye)]; exact hD, upd_same, _, rfl, ?_⟩⟩
    have s3 := s2.new (o := .lst []) nye
    rw [if_pos rfl, hem]
    cases eab : (isD "tuple" a && isD "tuple" b) with
    | false =>
      refine iteT (no (fun e l rs z => ?_) _ _ _ s3 rfl)
      cases z
      cases eab
    | true =>
    rw [Bool.and_eq_true] at eab
    obtain ⟨hs, rfl⟩ := isD_tuple eab.1
    obtain ⟨rs, rfl⟩ := isD_tuple eab.2
    cases hs with
    | nil => cases hu
    | cons e0 l0 =>
    have ew : townWrong (.tuple [.tuple (e0 :: l0), .tuple rs]) = orElse (badHome 0 [] (e0 :: l0)) (badRoad 0 ((e0 :: l0).map entryName) [] rs) := rfl
    rw [ew] at q
    clear no
    obtain ⟨aa, xa, rfl, haa, hxa, hla⟩ := dv_tup ha
    obtain ⟨ab, xb, rfl, hab, hxb, hlb⟩ := dv_tup hb
    clear hu h2
    generalize hhs : e0 :: l0 = hs at *
    -- from here on: over the first heap
    have hd' := hd
    generalize upd H1 ye (.lst []) = H2 at s3
    clear hem hD hp1 su s1 s2 nu nD nye
    refine iteF ⟨by show 0 ≤ sizeLine; decide, fun nm nnm => ?_⟩
    have nm0 : H nm = none := s3.none nnm
    have s4 := s3.new (o := .lst []) nnm
    have hp4 := s4.same _ _ hp fun _ z => nomatch z
    have haa4 := s4.same _ _ haa fun _ z => nomatch z
    refine ⟨_, rfl, .inr (.inl ⟨p, _, _, .ref aa, rfl, rfl, SqT.of hp4, atI_nat (j := 0) rfl, aa, xa, rfl, SqT.of haa4, ?_⟩)⟩
    refine for_it (walk_enumT (xs := xa)) (fun i σ G => ∃ (seen : List Str) (v2 v3 : Option V), σ = [some (.ref p), some (.ref nm), v2, v3, none, none, none, none] ∧ StayT H G ∧ G nm = some (.lst (seen.map V.str)) ∧ (∀ x ∈ seen, OkS x) ∧ seen = (hs.take i).map entryName ∧ badHome 0 [] hs = badHome i seen (hs.drop i)) ?h0 ?hG ?hs ?hd
    case h0 => exact ⟨[], none, none, rfl, s4, upd_same, (fun _ z => by cases z), rfl, rfl⟩
    case hG =>
      rintro i σ G hi ⟨seen, v2, v3, rfl, s5, _⟩
      exact SqT.of (s5.same _ _ haa fun _ z => nomatch z)
    case hs =>
      rintro i y σ G G1 hi ⟨seen, v2, v3, rfl, s5, hnm, oks, sn, e⟩ ⟨tp, i0, x, rfl, htp, rfl, e0, hx⟩
      cases e0
      obtain ⟨d, _, hdx, hdrop, htake⟩ := dvs_at hxa hx
      have s6 := s5.new (o := .tup [.int (i : Nat), x]) htp
      have hnm6 : upd G tp (.tup [.int (i : Nat), x]) nm = some (.lst (seen.map V.str)) := by rw [upd_ne (ne_of_none hnm htp)]; exact hnm
      have hlen : seen.length ≤ 1000 := by
        have : xa.length = hs.length := hxa.length
        rw [sn, List.length_map, List.length_take]; omega
      refine ⟨tp, _, rfl, SqT.of upd_same, rfl, _, _, rfl, _, _, rfl, rfl, ?_⟩
      rw [hdrop] at e
      generalize upd G tp (.tup [.int (i : Nat), x]) = G2 at s6 hnm6
      have ret : homeOk seen d = false → ∀ (D : Ends) (H3 : Hp), StayT H H3 → D.rt = Q → tRet (tTup (tCons (tC (.str "home")) (tCons (tVar 2) tNil))) D [some (.ref p), some (.ref nm), some (.int (i : Nat)), some x, none, none, none, none] H3 := fun z D H3 s7 eD => by
        unfold tRet
        rw [eD]
        refine ⟨_, rfl, by show 2 ≤ sizeLine; decide, fun r hr2 => q _ _ (s7.new hr2) ?_⟩
        have bad : badHome 0 [] hs = .tuple [.str "home", .int i] := by
          rw [e]; unfold badHome; rw [z]; rfl
        rw [bad]
        exact .tup upd_same (.two (.str (by decide +kernel) (by decide +kernel)) (.int _)) (by show 2 ≤ 1000; decide)
      have hd6 := hdx.stay s6
      refine ⟨x, rfl, x, "tuple", d, rfl, hd6, .inr (.inr (.inr rfl)), _, rfl, ?_⟩
      cases et : isD "tuple" d with
      | false =>
        refine iteT (ret ?_ _ _ s6 rfl)
        cases d <;> first | rfl | cases et
      | true =>
      obtain ⟨dl, rfl⟩ := isD_tuple et
      refine iteF ⟨x, rfl, x, _, dl.length, rfl, hd6, rfl, rfl, _, rfl, ?_⟩
      rw [neTwo]
      by_cases h2 : dl.length = 2
      case neg =>
        rw [decide_eq_false h2]
        refine iteT (ret ?_ _ _ s6 rfl)
        rcases pair_cases (.tuple dl) with ⟨a, b, z⟩ | ⟨_, _, z⟩
        · cases z; exact absurd rfl h2
        · simp [homeOk, z]
      rw [decide_eq_true h2]
      obtain ⟨a, b, rfl⟩ : ∃ a b, dl = [a, b] := by
        match dl, h2 with
        | [a, b], _ => exact ⟨a, b, rfl⟩
      refine iteF ⟨x, rfl, _, a, 0, hd6, rfl, rfl, fun va hva => ⟨va, a, rfl, hva, fun H7 s7 => ⟨_, rfl, ?_⟩⟩⟩
      have s67 := s6.trans s7
      cases en : isName a with
      | false => exact iteT (ret (by simp [homeOk, isEntry, en]) _ _ s67 rfl)
      | true =>
      obtain ⟨nmx, rfl⟩ : ∃ z, a = .str z := by
        cases a with
        | str z => exact ⟨z, rfl⟩
        | _ => cases en
      have hd7 := hd6.stay s7
      have hnm7 := s7.same _ _ hnm6 fun _ z => nomatch z
      refine iteF ⟨x, rfl, _, .str nmx, 0, hd7, rfl, rfl, fun vb hvb => ?_⟩
      have okx := dv_oks hvb
      cases dv_str hvb
      obtain ⟨k1, k2⟩ := dp_str (K := K) (H := H7) okx
      obtain ⟨k3, k4⟩ := dp_strs (K := K) hnm7 oks hlen
      refine ⟨_, rfl, _, _, k1, k3, k2, k4, _, rfl, ?_⟩
      rw [any_str]
      by_cases ins : nmx ∈ seen
      · rw [decide_eq_true ins]
        exact iteT (ret (by simp [homeOk, entryName, ins]) _ _ s67 rfl)
      rw [decide_eq_false ins]
      refine iteF ⟨x, rfl, _, b, 1, hd7, rfl, rfl, fun vw hvw => ⟨vw, b, rfl, hvw, _, rfl, ?_⟩⟩
      cases ewh : (isWhole b && fromZero b) with
      | false => exact iteT (ret (by simp [homeOk, isEntry, en, ewh]) _ _ s67 rfl)
      | true =>
      refine iteF ⟨_, rfl, tyV_lst hnm7, x, rfl, _, .str nmx, 0, hd7, rfl, rfl, fun vc hvc => ?_⟩
      cases dv_str hvc
      refine ⟨nm, _, .str nmx, rfl, rfl, hnm7, by rw [List.length_map]; exact Nat.lt_of_le_of_lt hlen (by decide), seen ++ [nmx], _, _, rfl, s67.upd nm0, by rw [upd_same, List.map_append]; rfl, all_snoc oks okx, ?_, ?_⟩
      · rw [htake, List.map_append, sn]; rfl
      · rw [e]; conv => lhs; unfold badHome
        rw [if_pos (by simp [homeOk, isEntry, en, ewh, entryName, ins])]
        rfl
    case hd =>
      rintro σ G ⟨seen, v2, v3, rfl, s5, hnm, oks, sn, e⟩
      have xl : xa.length = hs.length := hxa.length
      have bh : badHome 0 [] hs = .none := by rw [e, xl, List.drop_length]; rfl
      have sn2 : seen = hs.map entryName := by rw [sn, xl, List.take_length]
      rw [bh, ← sn2] at q
      replace q : ∀ (H' : Hp) (r : V), StayT H H' → DV H' r (badRoad 0 seen [] rs) → Q r H' := q
      have hlen : seen.length ≤ 1000 := by rw [sn2, List.length_map]; exact hla
      clear sn e bh
      have hxbG := hxb.stay s5
      have habG := s5.same _ _ hab fun _ z => nomatch z
      have hpG := s5.same _ _ hp fun _ z => nomatch z
      replace q : ∀ (H' : Hp) (r : V), StayT G H' → DV H' r (badRoad 0 seen [] rs) → Q r H' := fun H' r s r1 => q H' r (s5.trans s) r1
      refine ⟨by show 0 ≤ sizeLine; decide, fun pr npr => ?_⟩
      have s6 := (StayT.refl G).new (o := .lst []) npr
      have hp6 := s6.same _ _ hpG fun _ z => nomatch z
      have hab6 := s6.same _ _ habG fun _ z => nomatch z
      refine ⟨_, rfl, .inr (.inl ⟨p, _, _, .ref ab, rfl, rfl, SqT.of hp6, atI_nat (j := 1) rfl, ab, xb, rfl, SqT.of hab6, ?_⟩)⟩
      refine for_it (walk_enumT (xs := xb)) (fun i σ G1 => ∃ (vs : List V) (ps : List (Str × Str)) (w2 w5 : Option V), σ = [some (.ref p), some (.ref nm), w2, v3, some (.ref pr), w5, none, none] ∧ StayT G G1 ∧ G1 pr = some (.lst vs) ∧ DVs G vs (ps.map pairOf) ∧ ps.length = i ∧ badRoad 0 seen [] rs = badRoad i seen ps (rs.drop i)) ?h0 ?hG ?hs ?hd
      case h0 => exact ⟨[], [], _, none, rfl, s6, upd_same, .nil, rfl, rfl⟩
      case hG =>
        rintro i σ G1 hi ⟨vs, ps, w2, w5, rfl, s7, _⟩
        exact SqT.of (s7.same _ _ habG fun _ z => nomatch z)
      case hs =>
        rintro i y σ G0 G1 hi ⟨vs, ps, w2, w5, rfl, s7, hpr, hvs, hpl, e⟩ ⟨tp, i0, x, rfl, htp, rfl, e0, hx⟩
        cases e0
        obtain ⟨d, _, hdx, hdrop, _⟩ := dvs_at hxbG hx
        have s8 := s7.new (o := .tup [.int (i : Nat), x]) htp
        have hpr8 : upd G0 tp (.tup [.int (i : Nat), x]) pr = some (.lst vs) := by rw [upd_ne (ne_of_none hpr htp)]; exact hpr
        have xl2 : xb.length = rs.length := hxbG.length
        have plen : ps.length ≤ 1000 := by omega
        refine ⟨tp, _, rfl, SqT.of upd_same, rfl, _, _, rfl, _, _, rfl, rfl, ?_⟩
        rw [hdrop] at e
        generalize upd G0 tp (.tup [.int (i : Nat), x]) = G2 at s8 hpr8
        have ret : roadOk seen ps d = false → ∀ (D : Ends) (H3 : Hp), StayT G H3 → D.rt = Q → tRet (tTup (tCons (tC (.str "road")) (tCons (tVar 2) tNil))) D [some (.ref p), some (.ref nm), some (.int (i : Nat)), v3, some (.ref pr), some x, none, none] H3 := fun z D H3 s9 eD => by
          unfold tRet
          rw [eD]
          refine ⟨_, rfl, by show 2 ≤ sizeLine; decide, fun r hr2 => q _ _ (s9.new hr2) ?_⟩
          have bad : badRoad 0 seen [] rs = .tuple [.str "road", .int i] := by
            rw [e]; unfold badRoad; rw [z]; rfl
          rw [bad]
          exact .tup upd_same (.two (.str (by decide +kernel) (by decide +kernel)) (.int _)) (by show 2 ≤ 1000; decide)
        have hd8 := hdx.stay s8
        refine ⟨x, rfl, x, "tuple", d, rfl, hd8, .inr (.inr (.inr rfl)), _, rfl, ?_⟩
        cases et : isD "tuple" d with
        | false =>
          refine iteT (ret ?_ _ _ s8 rfl)
          cases d <;> first | rfl | cases et
        | true =>
        obtain ⟨dl, rfl⟩ := isD_tuple et
        refine iteF ⟨x, rfl, x, _, dl.length, rfl, hd8, rfl, rfl, _, rfl, ?_⟩
        rw [neTwo]
        by_cases h2 : dl.length = 2
        case neg =>
          rw [decide_eq_false h2]
          refine iteT (ret (roadOk_text ?_) _ _ s8 rfl)
          rcases pair_cases (.tuple dl) with ⟨a, b, z⟩ | ⟨_, z, _⟩
          · cases z; exact absurd rfl h2
          · exact z
        rw [decide_eq_true h2]
        obtain ⟨a, b, rfl⟩ : ∃ a b, dl = [a, b] := by
          match dl, h2 with
          | [a, b], _ => exact ⟨a, b, rfl⟩
        obtain ⟨ra, zs, rfl, hra, hzs, _⟩ := dv_tup hdx
        cases hzs with
        | @cons va vs0 d0 ds0 hva t0 =>
        cases t0 with
        | @cons vb vs1 d1 ds1 hvb t1 =>
        cases t1
        have hra8 := s8.same _ _ hra fun _ z => nomatch z
        refine iteF ⟨_, rfl, ra, rfl, ⟨_, SqT.of hra8⟩, fun D nD => ?_⟩
        refine lc_sift (H := G2) (D := D) (walk_tup (xs := [va, vb])) (fun i => match i with
          | 0 => isD "str" a
          | _ => isD "str" b) nD (by show 7 < 8; decide) (by show 2 ≤ 1000; decide) (fun H1 s1 => SqT.of (s1.same _ _ hra8 fun _ z => nomatch z)) (fun j z H1 hj hz s1 R r => ?_) (fun H1 us s1 hD hem => ?_)
        · match j, hj with
          | 0, _ =>
            cases hz
            exact ⟨_, rfl, va, "str", a, rfl, (hva.stay s8).stay s1, .inr (.inr (.inl rfl)), _, rfl, r⟩
          | 1, _ =>
            cases hz
            exact ⟨_, rfl, vb, "str", b, rfl, (hvb.stay s8).stay s1, .inr (.inr (.inl rfl)), _, rfl, r⟩
        replace hem : us.isEmpty = (isD "str" a && isD "str" b) := by rw [hem]; simp [List.range_succ]
        have s9 := s8.trans s1
        have hpr9 := s1.same _ _ hpr8 fun _ z => nomatch z
        refine ⟨by show 0 ≤ sizeLine; decide, fun ye nye => ⟨D, ye, us, rfl, rfl, by rw [upd_ne (ne_of_none hD nye)]; exact hD, upd_same, _, rfl, ?_⟩⟩
        have s10 := s9.new (o := .lst []) nye
        have hpr10 : upd H1 ye (.lst []) pr = some (.lst vs) := by rw [upd_ne (ne_of_none hpr9 nye)]; exact hpr9
        rw [if_pos rfl, hem]
        cases eab : (isD "str" a && isD "str" b) with
        | false => exact iteT (ret (roadOk_text (by rw [textPair_eq]; exact eab)) _ _ s10 rfl)
        | true =>
        rw [Bool.and_eq_true] at eab
        obtain ⟨na, rfl⟩ : ∃ z, a = .str z := by
          cases a with
          | str z => exact ⟨z, rfl⟩
          | _ => cases eab.1
        obtain ⟨nb, rfl⟩ : ∃ z, b = .str z := by
          cases b with
          | str z => exact ⟨z, rfl⟩
          | _ => cases eab.2
        have oka := dv_oks hva
        have okb := dv_oks hvb
        cases dv_str hva
        cases dv_str hvb
        generalize upd H1 ye (.lst []) = G3 at s10 hpr10
        clear hem hD nye s9 hpr9 s1 nD hra8
        have hra10 := s10.same _ _ hra fun _ z => nomatch z
        have hnm10 := s10.same _ _ hnm fun _ z => nomatch z
        refine iteF ⟨_, rfl, ra, rfl, ⟨_, SqT.of hra10⟩, fun D2 nD2 => ?_⟩
        have inN : ∀ (x : Str), OkS x → ∀ H1, StayT G3 H1 → ∀ R : Bool → Hp → Prop, R (!decide (x ∈ seen)) H1 → rNotInD K (.str x) (.ref nm) H1 fun x H' => ∃ k, x = V.bl k ∧ R k H' := fun x okx H1 s1 R r => by
          obtain ⟨k1, k2⟩ := dp_str (K := K) (H := H1) okx
          obtain ⟨k3, k4⟩ := dp_strs (K := K) (s1.same _ _ hnm10 fun _ z => nomatch z) oks hlen
          exact ⟨_, _, k1, k3, k2, k4, _, rfl, by rw [any_str]; exact r⟩
        refine lc_sift (H := G3) (D := D2) (walk_tup (xs := [.str na, .str nb])) (fun i => match i with
          | 0 => decide (na ∈ seen)
          | _ => decide (nb ∈ seen)) nD2 (by show 7 < 8; decide) (by show 2 ≤ 1000; decide) (fun H1 s1 => SqT.of (s1.same _ _ hra10 fun _ z => nomatch z)) (fun j z H1 hj hz s1 R r => ?_) (fun H1 us s1 hD hem => ?_)
        · match j, hj with
          | 0, _ =>
            cases hz
            exact ⟨_, rfl, _, rfl, inN na oka H1 s1 R r⟩
          | 1, _ =>
            cases hz
            exact ⟨_, rfl, _, rfl, inN nb okb H1 s1 R r⟩
        replace hem : us.isEmpty = (decide (na ∈ seen) && decide (nb ∈ seen)) := by rw [hem]; simp [List.range_succ]
        have s11 := s10.trans s1
        have hpr11 := s1.same _ _ hpr10 fun _ z => nomatch z
        refine ⟨by show 0 ≤ sizeLine; decide, fun ye nye => ⟨D2, ye, us, rfl, rfl, by rw [upd_ne (ne_of_none hD nye)]; exact hD, upd_same, _, rfl, ?_⟩⟩
        have s12 := s11.new (o := .lst []) nye
        have hpr12 : upd H1 ye (.lst []) pr = some (.lst vs) := by rw [upd_ne (ne_of_none hpr11 nye)]; exact hpr11
        rw [if_pos rfl, hem]
        generalize upd H1 ye (.lst []) = G4 at s12 hpr12
        clear hem hD nye s11 hpr11 s1 nD2 hra10 hnm10 inN
        cases eab2 : (decide (na ∈ seen) && decide (nb ∈ seen)) with
        | false => exact iteT (ret (by simp only [roadOk, eab2, Bool.false_and]) _ _ s12 rfl)
        | true =>
        have hd12 := hdx.stay s12
        have hra12 := s12.same _ _ hra fun _ z => nomatch z
        refine iteF ⟨_, rfl, _, .str na, 0, hd12, rfl, rfl, fun u1 hu1 => ⟨_, rfl, _, .str nb, 1, hd12, rfl, rfl, fun u2 hu2 => ⟨.str na, .str nb, hu1, hu2, rfl, rfl, Nat.zero_le _, Nat.zero_le _, _, rfl, ?_⟩⟩⟩
        rw [if_neg (by decide), eqv_str]
        by_cases same : na = nb
        · rw [decide_eq_true same]
          exact iteT (ret (by simp [roadOk, same]) _ _ s12 rfl)
        rw [decide_eq_false same]
        obtain ⟨k3, k4⟩ := dp_twos (K := K) hpr12 (hvs.stay s12) plen
        obtain ⟨k1, k2⟩ := dp_two (K := K) (a := na) (b := nb) hd12
        refine iteF ⟨_, rfl, _, rfl, _, _, k1, k3, k2, k4, _, rfl, ?_⟩
        rw [any_pair]
        by_cases in1 : (na, nb) ∈ ps
        · rw [decide_eq_true in1]
          exact iteT (ret (by simp [roadOk, in1]) _ _ s12 rfl)
        rw [decide_eq_false in1]
        refine iteF ⟨_, rfl, ra, _, _, rfl, SqT.of hra12, fun tq ntq => ⟨_, rfl, ?_⟩⟩
        have s13 := s12.new (o := .tup [.str nb, .str na]) ntq
        have hpr13 : upd G4 tq (.tup [.str nb, .str na]) pr = some (.lst vs) := by rw [upd_ne (ne_of_none hpr12 ntq)]; exact hpr12
        have dq : DV (upd G4 tq (.tup [.str nb, .str na])) (.ref tq) (pairOf (nb, na)) := .tup upd_same (.two (.str okb.1 okb.2) (.str oka.1 oka.2)) (by show 2 ≤ 1000; decide)
        obtain ⟨j3, j4⟩ := dp_twos (K := K) hpr13 (hvs.stay s13) plen
        obtain ⟨j1, j2⟩ := dp_two (K := K) (a := nb) (b := na) dq
        refine ⟨_, _, j1, j3, j2, j4, _, rfl, ?_⟩
        rw [any_pair]
        by_cases in2 : (nb, na) ∈ ps
        · rw [decide_eq_true in2]
          exact iteT (ret (by simp [roadOk, in2]) _ _ s13 rfl)
        rw [decide_eq_false in2]
        refine iteF ⟨_, rfl, tyV_lst hpr13, _, rfl, pr, vs, .ref ra, rfl, rfl, hpr13, ?_, vs ++ [.ref ra], ps ++ [(na, nb)], _, _, rfl, s13.upd npr, upd_same, ?_, by simp [hpl], ?_⟩
        · have : vs.length = (ps.map pairOf).length := hvs.length
          rw [List.length_map] at this
          exact Nat.lt_of_le_of_lt (show vs.length ≤ 1000 by omega) (by decide)
        · rw [List.map_append]
          exact hvs.snoc hdx
        · rw [e]; conv => lhs; unfold badRoad
          rw [if_pos (by simp only [roadOk, eab2]; simp [same, in1, in2])]
          rfl
      case hd =>
        rintro σ G1 ⟨vs, ps, w2, w5, rfl, s7, hpr, hvs, hpl, e⟩
        refine q _ _ s7 ?_
        have xl2 : xb.length = rs.length := hxbG.length
        rw [e, xl2, List.drop_length]
        exact .non
end
end WR
namespace WR
open PySem PySem.Spec PyProof.Rows L2
/-- a name or none -/
def NameOr (d : PyData) : Prop := d = .none ∨ ∃ x, OkS x ∧ d = .str x
theorem dp_nameOr {K : PySem.W.Frag} {H : Hp} {a : Addr} {vs : List V} {l : List PyData} (e : H a = some (.lst vs)) (d : DVs H vs l) (h : ∀ z ∈ l, NameOr z) (hl : l.length ≤ 1000) : Dp K H (.ref a) (.list l) ∧ SeqAt.shaped (.list l) = true := by
  have k : ∀ l : List PyData, (∀ z ∈ l, NameOr z) → PyData.hasDictAll l = false ∧ PyData.depthAll l = 0 := fun l => by
    induction l with
    | nil => exact fun _ => ⟨rfl, rfl⟩
    | cons a l ih =>
      intro h
      obtain ⟨i2, i3⟩ := ih fun x hx => h x (List.mem_cons_of_mem _ hx)
      rcases h a List.mem_cons_self with rfl | ⟨x, _, rfl⟩
      · exact ⟨by simp only [PyData.hasDictAll, i2, PyData.hasDict, Bool.or_self], by simp only [PyData.depthAll, i3, PyData.depth, Nat.max_self]⟩
      · exact ⟨by simp only [PyData.hasDictAll, i2, PyData.hasDict, Bool.or_self], by simp only [PyData.depthAll, i3, PyData.depth, Nat.max_self]⟩
  obtain ⟨d2, d3⟩ := k l h
  have dv : DV H (.ref a) (.list l) := .lst e d hl
  have nd : (PyData.list l).hasDict = false := by simp only [PyData.hasDict, d2]
  exact ⟨dv.dp nd, shaped_D dv nd (by simp only [PyData.depth, d3]; decide)⟩
theorem dvs_nameOr {H H' : Hp} : ∀ {vs : List V} {l : List PyData}, DVs H vs l → (∀ z ∈ l, NameOr z) → DVs H' vs l
  | _, _, .nil, _ => .nil
  | _, _, .cons h t, n => by
    refine .cons ?_ (dvs_nameOr t fun z hz => n z (List.mem_cons_of_mem _ hz))
    rcases n _ List.mem_cons_self with rfl | ⟨x, ok, rfl⟩
    · cases h; exact .non
    · cases dv_str h; exact .str ok.1 ok.2
theorem any_02 (n : Nat) : ([PyData.int 0, PyData.int 2].any fun z => z.eqv (.int (n : Nat))) = decide (n = 0 ∨ n = 2) := by
  have e : ∀ i j : Int, (PyData.int i).eqv (.int j) = decide (i = j) := fun i j => by
    simp only [PyData.eqv]
    by_cases h : i = j <;> simp [h]
  simp only [List.any_cons, List.any_nil, e, Bool.or_false]
  by_cases h : n = 0
  · subst h; rfl
  · by_cases h2 : n = 2
    · subst h2; rfl
    · rw [decide_eq_false (show ¬ (0 : Int) = (n : Nat) by omega), decide_eq_false (show ¬ (2 : Int) = (n : Nat) by omega), decide_eq_false (by omega)]
      rfl
section
variable {P : Program} {w : World} {K : PySem.W.Frag} {mg : Str → Option Value} {base : Heap} {f : Addr} {fd : FuncData} {T : Addr}
/-! ### _law_standing_due -/
abbrev s_law_standing_due : Stmt := topS 37
abbrev N_law_standing_due : List Str := ["town", "thing", "names", "k", "held"]
abbrev P_law_standing_due : List Str := ["town", "thing"]
theorem sc_law_standing_due : FnScope N_law_standing_due P_law_standing_due (defScope s_law_standing_due) := ⟨rfl, rfl, rfl, by decide +kernel, rfl, by decide +kernel, by decide +kernel⟩

def sp_law_standing_due : Sp := fun vs H Q _ => ∃ v d v2 d2, vs = [v, v2] ∧ DV H v d ∧ DV H v2 d2 ∧ townWrong d = .none ∧ ∀ H' r, StayT H H' → DV H' r (standingWrong d d2) → Q r H'
theorem ok_law_standing_due (F : FnP K "_law_standing_due" s_law_standing_due f fd) (fr : Free mg) (c_law_is_name : Cal P w K mg base "_law_is_name" 1 P_law_is_name sp_law_is_name) (c_law_is_whole : Cal P w K mg base "_law_is_whole" 1 P_law_is_whole sp_law_is_whole) :
    FnOk P w K mg base (L2.CX P w) 2 f fd P_law_standing_due sp_law_standing_due := by
  refine F.ok sc_law_standing_due (fun vs H Q E h => ?_) (fun cdv A outer s H vs Q E hr h => ⟨_, PSs.nox (pss_cons (ps_if (PW.pt (pw_or (pt_not (pt_val (pe_callB call_isD (by rfl) (fr "isinstance" (by decide)) (by decide +kernel) (pa_cons (pv 1) (pa_cons (pe_ty (n := "tuple") fr) pa_nil))))) (pw_or1 (pt_cmpR op_ne (pe_callB call_lenD' (by rfl) (fr "len" (by decide)) (by decide +kernel) (pa_cons (pv 1) pa_nil)) (pe_callB call_lenD' (by rfl) (fr "len" (by decide)) (by decide +kernel) (pa_cons (pe_ix ix_D (pv 0) pe_int (fun _ _ => rfl)) pa_nil)) (nomark _))))) (pss_one (ps_ret (pe_tup (pa_cons pe_str pa_nil)))) pss_nil)
    (pss_cons (ps_set (i := 2) sc_law_standing_due.nd rfl (Or.inl rfl) (pe_lst pa_nil))
    (pss_cons (ps_for PassesOwn.never rfl (pi_enumT rfl (fr "enumerate" (by decide)) (pa_cons (pv 1) pa_nil)) (pg_tup rfl (pgs_cons (pg_name (i := 3) sc_law_standing_due.nd rfl (Or.inl rfl)) (pgs_cons (pg_name (i := 4) sc_law_standing_due.nd rfl (Or.inl rfl)) pgs_nil))) (pss_cons (ps_if (PW.pt (pw_or (pt_not (pt_val (pe_callB call_isD (by rfl) (fr "isinstance" (by decide)) (by decide +kernel) (pa_cons (pv 4) (pa_cons (pe_ty (n := "tuple") fr) pa_nil))))) (pw_or1 (pt_cmpR (notInD_K (units1 hr)) (pe_callB call_lenD' (by rfl) (fr "len" (by decide)) (by decide +kernel) (pa_cons (pv 4) pa_nil)) (pe_lst (pa_cons pe_int (pa_cons pe_int pa_nil))) rfl)))) (pss_one (ps_ret (pe_tup (pa_cons pe_str (pa_cons (pv 3) pa_nil))))) pss_nil)
    (pss_cons (ps_if (PW.pt (pw_and (pt_cmpR (op_neU hr.units0) (pv 4) (pe_tup pa_nil) (nomark _)) (pw_and1 (PW.pt (pw_or (pt_not (pt_val (pe_F c_law_is_name (hr.mono (by omega)) (pa_cons (pe_ix ix_D (pv 4) pe_int (fun _ _ => rfl)) pa_nil)))) (pw_or (pt_cmpR (inD_K (units1 hr)) (pe_ix ix_D (pv 4) pe_int (fun _ _ => rfl)) (pv 2) rfl) (pw_or1 (pt_not (pt_val (pe_F c_law_is_whole (hr.mono (by omega)) (pa_cons (pe_ix ix_D (pv 4) pe_int (fun _ _ => rfl)) pa_nil))))))))))) (pss_one (ps_ret (pe_tup (pa_cons pe_str (pa_cons (pv 3) pa_nil))))) pss_nil)
    (pss_one (ps_expr (pe_bm PySem.F.plainAttrs_list PySem.F.slot_list_append PySem.F.type_list_append mt_append (pv 2) (pa_cons (pe_ix ix_K (pe_op catA_K (pv 4) (pe_tup (pa_cons pe_non pa_nil))) pe_int (fun _ _ => rfl)) pa_nil)))))))
    (pss_one (ps_ret pe_non))))), ?_⟩)
  · obtain ⟨v, d, v2, d2, rfl, _⟩ := h; rfl
  · obtain ⟨v, d, v2, d2, rfl, hd, hd2, tw, q⟩ := h
    obtain ⟨e0, l0, rs, rfl, hbh, hbr⟩ := town_shape tw
    have ret0 : standingWrong (.tuple [.tuple (e0 :: l0), .tuple rs]) d2 = .tuple [.str "standing"] → ∀ (D : Ends) (σ : L2.St), D.rt = Q → tRet (tTup (tCons (tC (.str "standing")) tNil)) D σ H := fun z D σ eD => by
      unfold tRet
      rw [eD]
      refine ⟨by show 1 ≤ sizeLine; decide, fun r hr2 => q _ _ ((StayT.refl H).new hr2) ?_⟩
      rw [z]
      exact .tup upd_same (.one (.str (by decide +kernel) (by decide +kernel))) (by show 1 ≤ 1000; decide)
    refine ⟨v2, rfl, v2, "tuple", d2, rfl, hd2, .inr (.inr (.inr rfl)), _, rfl, ?_⟩
    cases ha : isD "tuple" d2 with
    | false => exact iteT (ret0 (by cases d2 <;> first | rfl | cases ha) _ _ rfl)
    | true =>
      obtain ⟨l, rfl⟩ := isD_tuple ha
      refine iteF ⟨v2, rfl, v2, _, _, rfl, hd2, rfl, ?_⟩
      refine ⟨v, rfl, _, _, 0, hd, rfl, rfl, fun vh hh => ⟨vh, _, _, rfl, hh, rfl, ?_⟩⟩
      refine ⟨rfl, _, rfl, ?_⟩
      by_cases len : l.length = (e0 :: l0).length
      case neg =>
        have zz : (!decide (V.int (l.length : Nat) = V.int ((e0 :: l0).length : Nat))) = true := by
          have z : ¬ V.int (l.length : Nat) = V.int ((e0 :: l0).length : Nat) := fun z => len (by injection z with z; omega)
          rw [decide_eq_false z]; rfl
        rw [zz]; exact iteT (ret0 (if_neg len) _ _ rfl)
      have zz : (!decide (V.int (l.length : Nat) = V.int ((e0 :: l0).length : Nat))) = false := by
        rw [len, decide_eq_true rfl]; rfl
      rw [zz]; refine iteF ?_
      have ew : standingWrong (.tuple [.tuple (e0 :: l0), .tuple rs]) (.tuple l) = badHand 0 [] l := if_pos len
      rw [ew] at q
      clear ret0 zz ha hbh hbr hh tw
      obtain ⟨a, xs, rfl, ha, hxs, hl⟩ := dv_tup hd2
      refine ⟨by show 0 ≤ sizeLine; decide, fun nm nnm => ?_⟩
      have s1 := (StayT.refl H).new (o := .lst []) nnm
      refine ⟨_, rfl, a, xs, rfl, SqT.of (s1.same _ _ ha fun _ z => nomatch z), ?_⟩
      refine for_it (walk_enumT (xs := xs)) (fun i σ H2 => ∃ (seen : List Str) (us : List V) (nd : List PyData) (w3 w4 : Option V), σ = [some v, some (.ref a), some (.ref nm), w3, w4] ∧ StayT H H2 ∧ H2 nm = some (.lst us) ∧ DVs H us nd ∧ (∀ z ∈ nd, NameOr z) ∧ (∀ x, (nd.any fun z => z.eqv (.str x)) = decide (x ∈ seen)) ∧ nd.length = i ∧
          badHand 0 [] l = badHand i seen (l.drop i)) ?h0 ?hG ?hs ?hd
      case h0 => exact ⟨[], [], [], none, none, rfl, s1, upd_same, .nil, (fun _ z => by cases z), (fun x => rfl), rfl, rfl⟩
      case hG =>
        rintro i σ H2 hi ⟨seen, us, nd, w3, w4, rfl, s2, _⟩
        exact SqT.of (s2.same _ _ ha fun _ z => nomatch z)
      case hs =>
        rintro i x σ H2 H3 hi ⟨seen, us, nd, w3, w4, rfl, s2, hnm, hus, hnd, hany, hlen, e⟩ ⟨tp, i0, y, rfl, htp, rfl, e0, hx⟩
        cases e0
        obtain ⟨d, _, hdx, hdrop, _⟩ := dvs_at hxs hx
        have s3 := s2.new (o := .tup [.int (i : Nat), y]) htp
        have hnm3 : upd H2 tp (.tup [.int (i : Nat), y]) nm = some (.lst us) := by rw [upd_ne (ne_of_none hnm htp)]; exact hnm
        have xl : xs.length = l.length := hxs.length
        refine ⟨tp, _, rfl, SqT.of upd_same, rfl, _, _, rfl, _, _, rfl, rfl, ?_⟩
        rw [hdrop] at e
        generalize upd H2 tp (.tup [.int (i : Nat), y]) = G at s3 hnm3
        clear hnm s2 htp
        have ret : handOk seen d = false → ∀ (D : Ends) (H4 : Hp), StayT H H4 → D.rt = Q → tRet (tTup (tCons (tC (.str "hand")) (tCons (tVar 3) tNil))) D [some v, some (.ref a), some (.ref nm), some (.int (i : Nat)), some y] H4 := fun z D H4 s4 eD => by
          unfold tRet
          rw [eD]
          refine ⟨_, rfl, by show 2 ≤ sizeLine; decide, fun r hr2 => q _ _ (s4.new hr2) ?_⟩
          have bad : badHand 0 [] l = .tuple [.str "hand", .int i] := by
            rw [e]; unfold badHand; rw [z]; rfl
          rw [bad]
          exact .tup upd_same (.two (.str (by decide +kernel) (by decide +kernel)) (.int _)) (by show 2 ≤ 1000; decide)
        have hd3 := hdx.stay s3
        refine ⟨y, rfl, y, "tuple", d, rfl, hd3, .inr (.inr (.inr rfl)), _, rfl, ?_⟩
        cases et : isD "tuple" d with
        | false =>
          refine iteT (ret ?_ _ _ s3 rfl)
          cases d <;> first | rfl | cases et
        | true =>
        obtain ⟨dl, rfl⟩ := isD_tuple et
        refine iteF ⟨y, rfl, y, _, dl.length, rfl, hd3, rfl, by show 2 ≤ sizeLine; decide, fun zl nzl => ?_⟩
        have s4 := s3.new (o := .lst [.int 0, .int 2]) nzl
        have hnm4 : upd G zl (.lst [.int 0, .int 2]) nm = some (.lst us) := by rw [upd_ne (ne_of_none hnm3 nzl)]; exact hnm3
        have hz : DV (upd G zl (.lst [.int 0, .int 2])) (.ref zl) (.list [.int 0, .int 2]) := .lst upd_same (.two (.int 0) (.int 2)) (by show 2 ≤ 1000; decide)
        refine ⟨.int (dl.length : Nat), [.int 0, .int 2], .int _, hz.dp rfl, shaped_D (H := H) (.int _) rfl (Nat.zero_le _), shaped_D hz rfl (by decide), _, rfl, ?_⟩
        rw [any_02]
        generalize upd G zl (.lst [.int 0, .int 2]) = G4 at s4 hnm4
        clear hz
        by_cases h02 : dl.length = 0 ∨ dl.length = 2
        case neg =>
          rw [decide_eq_false h02]
          refine iteT (ret ?_ _ _ s4 rfl)
          have n1 : isUnit (.tuple dl) = false := by
            cases dl with
            | nil => exact absurd (.inl rfl) h02
            | cons _ _ => rfl
          have n2 : isEntry (.tuple dl) = false := by
            rcases pair_cases (.tuple dl) with ⟨a, b, z⟩ | ⟨_, _, z⟩
            · cases z; exact absurd (.inr rfl) h02
            · exact z
          simp [handOk, homeOk, n1, n2]
        rw [decide_eq_true h02]
        obtain ⟨ya, ys, rfl, hya, hys, _⟩ := dv_tup hdx
        have hya4 := s4.same _ _ hya fun _ z => nomatch z
        refine iteF ⟨_, rfl, by show 0 ≤ sizeLine; decide, fun u nu => ?_⟩
        have s5 := s4.new (o := .tup []) nu
        have hnm5 : upd G4 u (.tup []) nm = some (.lst us) := by rw [upd_ne (ne_of_none hnm4 nu)]; exact hnm4
        have hya5 : upd G4 u (.tup []) ya = some (.tup ys) := by rw [upd_ne (ne_of_none hya4 nu)]; exact hya4
        refine ⟨ya, u, ys, rfl, rfl, hya5, upd_same, _, rfl, ?_⟩
        generalize upd G4 u (.tup []) = G5 at s5 hnm5 hya5
        clear hnm4 hya4 s4 nu
        have yl : ys.length = dl.length := hys.length
        have ul : us.length = nd.length := hus.length
        have ul2 : us.length < sizeLine := Nat.lt_of_le_of_lt (show us.length ≤ 1000 by omega) (by decide)
        cases hys with
        | nil =>
          refine iteF (iteF ⟨_, rfl, tyV_lst hnm5, _, rfl, by show 1 ≤ sizeLine; decide, fun tn ntn => ?_⟩)
          have s6 := s5.new (o := .tup [.non]) ntn
          have hnm6 : upd G5 tn (.tup [.non]) nm = some (.lst us) := by rw [upd_ne (ne_of_none hnm5 ntn)]; exact hnm5
          refine ⟨ya, tn, _, _, rfl, rfl, SqT.of (by rw [upd_ne (ne_of_none hya5 ntn)]; exact hya5), SqT.of upd_same, by show 1 ≤ sizeLine; decide, fun _ => ?_, fun z => absurd rfl z, fun z => absurd rfl z⟩
          refine .inr (.inl ⟨tn, [.non], _, .non, rfl, rfl, SqT.of upd_same, atI_nat (j := 0) rfl, ?_⟩)
          refine ⟨nm, us, .non, rfl, rfl, hnm6, ul2, seen, us ++ [.non], nd ++ [.none], _, _, rfl, s6.upd nnm, upd_same, hus.snoc .non, all_snoc hnd (.inl rfl), fun x => ?_, by simp [hlen], ?_⟩
          · rw [List.any_append, hany]
            have z : (PyData.none).eqv (.str x) = false := by simp only [PyData.eqv]
            simp [z]
          · rw [e]; conv => lhs; unfold badHand
            rfl
        | @cons va ys0 a1 dl0 hva t0 =>
        cases t0 with
        | nil => exact absurd h02 (by simp)
        | @cons vb ys1 b1 dl1 hvb t1 =>
        cases t1 with
        | cons _ _ => exact absurd h02 (by simp)
        | nil =>
        have hd5 := hdx.stay s5
        refine iteT ⟨_, rfl, _, a1, 0, hd5, rfl, rfl, fun vc hvc => ⟨vc, a1, rfl, hvc, fun H7 s7 => ⟨_, rfl, ?_⟩⟩⟩
        have s57 := s5.trans s7
        cases en : isName a1 with
        | false => exact iteT (iteT (ret (by simp [handOk, isUnit, homeOk, isEntry, en]) _ _ s57 rfl))
        | true =>
        obtain ⟨nmx, rfl⟩ : ∃ z, a1 = .str z := by
          cases a1 with
          | str z => exact ⟨z, rfl⟩
          | _ => cases en
        have okx := dv_oks hva
        cases dv_str hva
        have hd7 := hd5.stay s7
        have hnm7 := s7.same _ _ hnm5 fun _ z => nomatch z
        have hya7 := s7.same _ _ hya5 fun _ z => nomatch z
        refine iteF ⟨_, rfl, _, .str nmx, 0, hd7, rfl, rfl, fun ve hve => ?_⟩
        cases dv_str hve
        obtain ⟨k1, k2⟩ := dp_str (K := K) (H := H7) okx
        obtain ⟨k3, k4⟩ := dp_nameOr (K := K) hnm7 (hus.stay s57) hnd (by omega)
        refine ⟨_, rfl, _, _, k1, k3, k2, k4, _, rfl, ?_⟩
        rw [hany]
        by_cases ins : nmx ∈ seen
        · rw [decide_eq_true ins]
          exact iteT (iteT (ret (by simp [handOk, isUnit, homeOk, entryName, ins]) _ _ s57 rfl))
        rw [decide_eq_false ins]
        refine iteF ⟨_, rfl, _, b1, 1, hd7, rfl, rfl, fun vw hvw => ⟨vw, b1, rfl, hvw, _, rfl, ?_⟩⟩
        cases ewh : (isWhole b1 && fromZero b1) with
        | false => exact iteT (ret (by simp [handOk, isUnit, homeOk, isEntry, en, ewh]) _ _ s57 rfl)
        | true =>
        refine iteF ⟨_, rfl, tyV_lst hnm7, _, rfl, by show 1 ≤ sizeLine; decide, fun tn ntn => ?_⟩
        have s8 := s57.new (o := .tup [.non]) ntn
        have hnm8 : upd H7 tn (.tup [.non]) nm = some (.lst us) := by rw [upd_ne (ne_of_none hnm7 ntn)]; exact hnm7
        refine ⟨ya, tn, _, _, rfl, rfl, SqT.of (by rw [upd_ne (ne_of_none hya7 ntn)]; exact hya7), SqT.of upd_same, by show 3 ≤ sizeLine; decide, fun z => (by cases z), fun _ z => (by cases z), fun _ _ tq ntq => ?_⟩
        have s9 := s8.new (o := .tup ([.str nmx, vb] ++ [.non])) ntq
        have hnm9 : upd (upd H7 tn (.tup [.non])) tq (.tup ([.str nmx, vb] ++ [.non])) nm = some (.lst us) := by rw [upd_ne (ne_of_none hnm8 ntq)]; exact hnm8
        refine .inr (.inl ⟨tq, _, _, .str nmx, rfl, rfl, SqT.of upd_same, atI_nat (j := 0) rfl, ?_⟩)
        refine ⟨nm, us, .str nmx, rfl, rfl, hnm9, ul2, seen ++ [nmx], us ++ [.str nmx], nd ++ [.str nmx], _, _, rfl, s9.upd nnm, upd_same, hus.snoc (.str okx.1 okx.2), all_snoc hnd (.inr ⟨nmx, okx, rfl⟩), fun x => ?_, by simp [hlen], ?_⟩
        · rw [List.any_append, hany]
          simp only [List.any_cons, List.any_nil, eqv_str, Bool.or_false]
          by_cases h1 : x ∈ seen <;> by_cases h2 : nmx = x <;> simp [h1, h2, eq_comm]
        · rw [e]; conv => lhs; unfold badHand
          rw [if_pos (by simp [handOk, isUnit, homeOk, isEntry, en, ewh, entryName, ins])]
          rfl
      case hd =>
        rintro σ H2 ⟨seen, us, nd, w3, w4, rfl, s2, hnm, hus, hnd, hany, hlen, e⟩
        refine q _ _ s2 ?_
        rw [e, hxs.length, List.drop_length]
        exact .non
end
end WR
namespace WR
open PySem PySem.Spec PyProof.Rows L2
/-- not deeper than n, no tuple of more than 300 -/
def Fit : Nat → PyData → Prop
  | 0, d => isD "tuple" d = false
  | n + 1, d => ∀ l, d = .tuple l → l.length ≤ 300 ∧ ∀ e ∈ l, Fit n e
theorem Fit.succ : ∀ {n : Nat} {d : PyData}, Fit n d → Fit (n + 1) d
  | 0, d, h => fun l e => by rw [e] at h; cases h
  | n + 1, d, h => fun l e => ⟨(h l e).1, fun x hx => ((h l e).2 x hx).succ⟩
theorem fit_home {d : PyData} (h : HomeD d) : Fit 1 d := by
  obtain ⟨x, _, i, _, rfl⟩ := h
  intro l e
  cases e
  refine ⟨by show 2 ≤ 300; decide, fun y hy => ?_⟩
  simp at hy
  rcases hy with rfl | rfl <;> rfl
theorem fit_pair {d : PyData} (h : PairD d) : Fit 1 d := by
  obtain ⟨x, y, _, _, rfl⟩ := h
  intro l e
  cases e
  refine ⟨by show 2 ≤ 300; decide, fun y hy => ?_⟩
  simp at hy
  rcases hy with rfl | rfl <;> rfl
theorem fit_town {d : PyData} (h : TownD d) : Fit 3 d := by
  obtain ⟨hs, rs, rfl, h1, h2, h3, h4⟩ := h
  intro l e
  cases e
  refine ⟨by show 2 ≤ 300; decide, fun y hy => ?_⟩
  simp at hy
  rcases hy with rfl | rfl
  · intro l e
    cases e
    exact ⟨by omega, fun z hz => fit_home (h3 z hz)⟩
  · intro l e
    cases e
    exact ⟨by omega, fun z hz => fit_pair (h4 z hz)⟩
theorem fit_stand {d : PyData} (h : StandD d) : Fit 3 d := by
  obtain ⟨l0, rfl, h1, h2⟩ := h
  intro l e
  cases e
  refine ⟨by omega, fun y hy => ?_⟩
  rcases h2 y hy with z | rfl
  · exact (fit_home z).succ
  · intro l e
    cases e
    exact ⟨by show 0 ≤ 300; decide, fun _ z => by cases z⟩
/-- the addresses of ms keep what they have -/
def Keep (ms : List Addr) (H H' : Hp) : Prop := ∀ m ∈ ms, H' m = H m
theorem keep_upd {ms : List Addr} {H : Hp} {a : Addr} {o : HO} (n : a ∉ ms) : Keep ms H (upd H a o) := fun m hm => upd_ne fun z => n (by rw [← z]; exact hm)
theorem Keep.refl {ms : List Addr} {H : Hp} : Keep ms H H := fun _ _ => rfl
section
variable {K : PySem.W.Frag} {H : Hp} {p a b : Addr} {xs ys : List V} {l l2 : List PyData} {R : VK}
/-- x[lo:hi] of a tuple -/
theorem slice_any {lo hi : Option Int} {n : Nat} (hp : Purse H p n) (e : wl [p] H a = some (.tup xs)) (ds : DVs (wl [p] H) xs l) (hl : l.length ≤ 300)
    (q : ∀ H' a' xs' l', StayT (wl [p] H) (wl [p] H') → Purse H' p n → wl [p] H' a' = some (.tup xs') → DVs (wl [p] H') xs' l' → l'.length ≤ 300 → R (.ref a') H') : rSlA K (.ref a) lo hi H R := by
  refine ⟨a, xs, rfl, SqT.of (wl_some e).2, fun _ => q H a xs l (StayT.refl _) hp e ds hl, fun _ t nt => ?_⟩
  have tp : t ≠ p := hp.ne nt
  have tn : t ∉ [p] := by simpa using tp
  have st : StayT (wl [p] H) (wl [p] (upd H t (.tup (cutV xs lo hi)))) := wl_alloc nt
  refine q _ t _ ((l.drop (HT.sIx xs.length 0 lo)).take (HT.sIx xs.length xs.length hi - HT.sIx xs.length 0 lo)) st (hp.upd tp) (by rw [wl_upd_out tn, upd_same]; rfl) ((DVs.take _ (DVs.drop _ ds)).stay st) ?_
  rw [List.length_take, List.length_drop]; omega
/-- x + y of tuples -/
theorem cat_any {n : Nat} (hp : Purse H p n) (e : wl [p] H a = some (.tup xs)) (ds : DVs (wl [p] H) xs l) (e2 : wl [p] H b = some (.tup ys)) (ds2 : DVs (wl [p] H) ys l2) (hl : l.length + l2.length ≤ 1000)
    (q : ∀ H' a' xs', StayT (wl [p] H) (wl [p] H') → Purse H' p n → wl [p] H' a' = some (.tup xs') → DVs (wl [p] H') xs' (l ++ l2) → R (.ref a') H') : rCatA K (.ref a) (.ref b) H R := by
  have l1 := ds.length
  have l2' := ds2.length
  refine ⟨a, b, xs, ys, rfl, rfl, SqT.of (wl_some e).2, SqT.of (wl_some e2).2, Nat.le_trans (show xs.length + ys.length ≤ 1000 by omega) (by decide), fun z => ?_, fun _ z => ?_, fun _ _ t nt => ?_⟩
  · subst z
    cases ds
    exact q H b ys (StayT.refl _) hp e2 ds2
  · subst z
    cases ds2
    rw [List.append_nil] at q
    exact q H a xs (StayT.refl _) hp e ds
  · have tp : t ≠ p := hp.ne nt
    have tn : t ∉ [p] := by simpa using tp
    have st : StayT (wl [p] H) (wl [p] (upd H t (.tup (xs ++ ys)))) := wl_alloc nt
    exact q _ t _ st (hp.upd tp) (by rw [wl_upd_out tn, upd_same]) ((ds.append ds2).stay st)
end
end WR
namespace WR
open PySem PySem.Spec PyProof.Rows L2
section
variable {P : Program} {w : World} {K : PySem.W.Frag} {mg : Str → Option Value} {base : Heap} {f : Addr} {fd : FuncData} {T : Addr}
/-! ### _law_odd -/
abbrev s_law_odd : Stmt := topS 38
abbrev N_law_odd : List Str := ["purse", "some"]
abbrev P_law_odd : List Str := ["purse"]
theorem sc_law_odd : FnScope N_law_odd P_law_odd (defScope s_law_odd) := ⟨rfl, rfl, rfl, by decide +kernel, rfl, by decide +kernel, by decide +kernel⟩

def sp_law_odd : Sp := fun vs H Q _ => ∃ (p : Addr) (b : Nat), vs = [.ref p] ∧ Purse H p b ∧ b ≤ 900000 ∧ ∀ H' v d, StayT (wl [p] H) (wl [p] H') → Purse H' p (b + 1) → DV (wl [p] H') v d → Q v H'
theorem ok_law_odd (F : FnP K "_law_odd" s_law_odd f fd) (fr : Free mg) (c_law_draw : Cal P w K mg base "_law_draw" 2 P_law_draw sp_law_draw) : FnOk P w K mg base (L2.CX P w) 3 f fd P_law_odd sp_law_odd := by
  refine F.ok sc_law_odd (fun vs H Q E h => ?_) (fun cdv A outer s H vs Q E hr h => ⟨_, PSs.nox (pss_cons (ps_set (i := 1) sc_law_odd.nd rfl (Or.inl rfl) (pe_lst (pa_cons pe_non (pa_cons pe_bl (pa_cons pe_bl (pa_cons (pe_un un_neg pe_int) (pa_cons pe_int (pa_cons pe_int (pa_cons pe_str (pa_cons pe_str (pa_cons pe_str (pa_cons pe_str (pa_cons pe_str (pa_cons pe_str (pa_cons pe_str (pa_cons pe_str pa_nil))))))))))))))))
    (pss_cons (ps_set (i := 1) sc_law_odd.nd rfl (Or.inl rfl) (pe_op op_cat (pv 1) (pe_lst (pa_cons (pe_tup pa_nil) (pa_cons (pe_lst pa_nil) (pa_cons pe_dnewK (pa_cons (pe_tup (pa_cons pe_str pa_nil)) (pa_cons (pe_tup (pa_cons pe_str (pa_cons pe_bl pa_nil))) (pa_cons (pe_tup (pa_cons pe_str (pa_cons pe_int pa_nil))) (pa_cons (pe_tup (pa_cons pe_str (pa_cons pe_str pa_nil))) (pa_cons (pe_lst (pa_cons pe_str (pa_cons pe_int pa_nil))) (pa_cons (pe_lst (pa_cons pe_str (pa_cons pe_str pa_nil))) (pa_cons (pe_tup (pa_cons pe_str (pa_cons pe_int pa_nil))) (pa_cons (pe_tup (pa_cons pe_str (pa_cons pe_int (pa_cons pe_int pa_nil)))) pa_nil))))))))))))))
    (pss_one (ps_ret (pe_ix ix_K (pv 1) (pe_F c_law_draw (hr.mono (by omega)) (pa_cons (pv 0) (pa_cons (pe_callB call_len_K (by rfl) (fr "len" (by decide)) (by decide +kernel) (pa_cons (pv 1) pa_nil)) pa_nil))) (fun _ _ => rfl)))))), ?_⟩)
  · obtain ⟨p, b, rfl, _⟩ := h; rfl
  · obtain ⟨p, b, rfl, hp, hb, q⟩ := h
    have pm : p ∈ [p] := List.mem_singleton.mpr rfl
    refine ⟨_, rfl, by show 14 ≤ sizeLine; decide, fun s1 ns1 => ?_⟩
    have s1_p : s1 ≠ p := hp.ne ns1
    have atoms : ∀ H : Hp, ∃ xs ds, [V.non, .bl true, .bl false, .int (-1), .int 0, .int 999999999, .str "a", .str "A", .str "", .str "9a", .str "longwords", .str "a_", .str "ab ", .str "a\n"] = xs ∧ DVs H xs ds := fun H =>
      ⟨_, _, rfl, .cons .non (.cons (.bl _) (.cons (.bl _) (.cons (.int _) (.cons (.int _) (.cons (.int _) (.cons (.str (by decide +kernel) (by decide +kernel)) (.cons (.str (by decide +kernel) (by decide +kernel)) (.cons (.str (by decide +kernel) (by decide +kernel)) (.cons (.str (by decide +kernel) (by decide +kernel)) (.cons (.str (by decide +kernel) (by decide +kernel)) (.cons (.str (by decide +kernel) (by decide +kernel)) (.cons (.str (by decide +kernel) (by decide +kernel)) (.cons (.str (by decide +kernel) (by decide +kernel)) .nil)))))))))))))⟩
    have S : StayT (wl [p] H) (wl [p] (upd H s1 (.lst [V.non, .bl true, .bl false, .int (-1), .int 0, .int 999999999, .str "a", .str "A", .str "", .str "9a", .str "longwords", .str "a_", .str "ab ", .str "a\n"]))) := wl_alloc ns1
    have h1 : wl [p] (upd H s1 (.lst [V.non, .bl true, .bl false, .int (-1), .int 0, .int 999999999, .str "a", .str "A", .str "", .str "9a", .str "longwords", .str "a_", .str "ab ", .str "a\n"])) s1 = some (.lst [V.non, .bl true, .bl false, .int (-1), .int 0, .int 999999999, .str "a", .str "A", .str "", .str "9a", .str "longwords", .str "a_", .str "ab ", .str "a\n"]) := by rw [wl_upd_out (by simpa using s1_p), upd_same]
    replace hp := hp.upd (o := .lst [V.non, .bl true, .bl false, .int (-1), .int 0, .int 999999999, .str "a", .str "A", .str "", .str "9a", .str "longwords", .str "a_", .str "ab ", .str "a\n"]) s1_p
    have step : ∀ {H1 : Hp} {a : Addr} {o : HO} {xs : List V} {ds : List PyData} {d : PyData}, H1 a = none → Purse H1 p b → StayT (wl [p] H) (wl [p] H1) → (∃ zs, wl [p] H1 s1 = some (.lst zs) ∧ [V.non, .bl true, .bl false, .int (-1), .int 0, .int 999999999, .str "a", .str "A", .str "", .str "9a", .str "longwords", .str "a_", .str "ab ", .str "a\n"] = zs) → DVs (wl [p] H1) xs ds → DV (wl [p] (upd H1 a o)) (.ref a) d →
        Purse (upd H1 a o) p b ∧ StayT (wl [p] H) (wl [p] (upd H1 a o)) ∧ (∃ zs, wl [p] (upd H1 a o) s1 = some (.lst zs) ∧ [V.non, .bl true, .bl false, .int (-1), .int 0, .int 999999999, .str "a", .str "A", .str "", .str "9a", .str "longwords", .str "a_", .str "ab ", .str "a\n"] = zs) ∧ DVs (wl [p] (upd H1 a o)) (xs ++ [.ref a]) (ds ++ [d]) := fun n h1 h2 ⟨zs, h3, h4⟩ h5 h6 =>
      ⟨h1.upd (h1.ne n), h2.trans (wl_alloc n), ⟨zs, (wl_alloc n).same _ _ h3 (fun _ z => nomatch z), h4⟩, (h5.stay (wl_alloc n)).snoc h6⟩
    refine ⟨_, rfl, ?_⟩
    generalize upd H s1 (.lst _) = G0 at S h1 hp
    obtain ⟨hp0, S0, Z0, A0⟩ : Purse G0 p b ∧ StayT (wl [p] H) (wl [p] G0) ∧ (∃ zs, wl [p] G0 s1 = some (.lst zs) ∧ [V.non, .bl true, .bl false, .int (-1), .int 0, .int 999999999, .str "a", .str "A", .str "", .str "9a", .str "longwords", .str "a_", .str "ab ", .str "a\n"] = zs) ∧ DVs (wl [p] G0) [] [] := ⟨hp, S, ⟨_, h1, rfl⟩, .nil⟩
    refine ⟨by show 0 ≤ sizeLine; decide, fun a0 n0 => ?_⟩
    obtain ⟨hp1, S1, Z1, A1⟩ := step (o := .tup []) n0 hp0 S0 Z0 A0 (dv_made (ds := []) n0 (by simpa using hp0.ne n0) .nil (by show 0 ≤ 1000; decide))
    generalize upd G0 a0 (.tup []) = G1 at hp1 S1 Z1 A1
    refine ⟨by show 0 ≤ sizeLine; decide, fun a1 n1 => ?_⟩
    obtain ⟨hp2, S2, Z2, A2⟩ := step (o := .lst []) n1 hp1 S1 Z1 A1 (dv_madeL (ds := []) n1 (by simpa using hp1.ne n1) .nil (by show 0 ≤ 1000; decide))
    generalize upd G1 a1 (.lst []) = G2 at hp2 S2 Z2 A2
    refine fun a2 n2 => ?_
    obtain ⟨hp3, S3, Z3, A3⟩ := step (o := .dK []) n2 hp2 S2 Z2 A2 (DV.dct (a := a2) (by rw [wl_upd_out (by simpa using hp2.ne n2), upd_same]))
    generalize upd G2 a2 (.dK []) = G3 at hp3 S3 Z3 A3
    refine ⟨by show 1 ≤ sizeLine; decide, fun a3 n3 => ?_⟩
    obtain ⟨hp4, S4, Z4, A4⟩ := step (o := .tup [.str "a"]) n3 hp3 S3 Z3 A3 (dv_made (ds := [.str "a"]) n3 (by simpa using hp3.ne n3) (.cons (.str (x := "a") (by decide +kernel) (by decide +kernel)) .nil) (by show 1 ≤ 1000; decide))
    generalize upd G3 a3 (.tup [.str "a"]) = G4 at hp4 S4 Z4 A4
    refine ⟨by show 2 ≤ sizeLine; decide, fun a4 n4 => ?_⟩
    obtain ⟨hp5, S5, Z5, A5⟩ := step (o := .tup [.str "a", .bl true]) n4 hp4 S4 Z4 A4 (dv_made (ds := [.str "a", .bool true]) n4 (by simpa using hp4.ne n4) (.cons (.str (x := "a") (by decide +kernel) (by decide +kernel)) (.cons (.bl true) .nil)) (by show 2 ≤ 1000; decide))
    generalize upd G4 a4 (.tup [.str "a", .bl true]) = G5 at hp5 S5 Z5 A5
    refine ⟨by show 2 ≤ sizeLine; decide, fun a5 n5 => ?_⟩
    obtain ⟨hp6, S6, Z6, A6⟩ := step (o := .tup [.str "a", .int 0]) n5 hp5 S5 Z5 A5 (dv_made (ds := [.str "a", .int 0]) n5 (by simpa using hp5.ne n5) (.cons (.str (x := "a") (by decide +kernel) (by decide +kernel)) (.cons (.int 0) .nil)) (by show 2 ≤ 1000; decide))
    generalize upd G5 a5 (.tup [.str "a", .int 0]) = G6 at hp6 S6 Z6 A6
    refine ⟨by show 2 ≤ sizeLine; decide, fun a6 n6 => ?_⟩
    obtain ⟨hp7, S7, Z7, A7⟩ := step (o := .tup [.str "a", .str "b"]) n6 hp6 S6 Z6 A6 (dv_made (ds := [.str "a", .str "b"]) n6 (by simpa using hp6.ne n6) (.cons (.str (x := "a") (by decide +kernel) (by decide +kernel)) (.cons (.str (x := "b") (by decide +kernel) (by decide +kernel)) .nil)) (by show 2 ≤ 1000; decide))
    generalize upd G6 a6 (.tup [.str "a", .str "b"]) = G7 at hp7 S7 Z7 A7
    refine ⟨by show 2 ≤ sizeLine; decide, fun a7 n7 => ?_⟩
    obtain ⟨hp8, S8, Z8, A8⟩ := step (o := .lst [.str "a", .int 1]) n7 hp7 S7 Z7 A7 (dv_madeL (ds := [.str "a", .int 1]) n7 (by simpa using hp7.ne n7) (.cons (.str (x := "a") (by decide +kernel) (by decide +kernel)) (.cons (.int 1) .nil)) (by show 2 ≤ 1000; decide))
    generalize upd G7 a7 (.lst [.str "a", .int 1]) = G8 at hp8 S8 Z8 A8
    refine ⟨by show 2 ≤ sizeLine; decide, fun a8 n8 => ?_⟩
    obtain ⟨hp9, S9, Z9, A9⟩ := step (o := .lst [.str "a", .str "b"]) n8 hp8 S8 Z8 A8 (dv_madeL (ds := [.str "a", .str "b"]) n8 (by simpa using hp8.ne n8) (.cons (.str (x := "a") (by decide +kernel) (by decide +kernel)) (.cons (.str (x := "b") (by decide +kernel) (by decide +kernel)) .nil)) (by show 2 ≤ 1000; decide))
    generalize upd G8 a8 (.lst [.str "a", .str "b"]) = G9 at hp9 S9 Z9 A9
    refine ⟨by show 2 ≤ sizeLine; decide, fun a9 n9 => ?_⟩
    obtain ⟨hp10, S10, Z10, A10⟩ := step (o := .tup [.str "zz", .int 1]) n9 hp9 S9 Z9 A9 (dv_made (ds := [.str "zz", .int 1]) n9 (by simpa using hp9.ne n9) (.cons (.str (x := "zz") (by decide +kernel) (by decide +kernel)) (.cons (.int 1) .nil)) (by show 2 ≤ 1000; decide))
    generalize upd G9 a9 (.tup [.str "zz", .int 1]) = G10 at hp10 S10 Z10 A10
    refine ⟨by show 3 ≤ sizeLine; decide, fun a10 n10 => ?_⟩
    obtain ⟨hp11, S11, Z11, A11⟩ := step (o := .tup [.str "a", .int 1, .int 1]) n10 hp10 S10 Z10 A10 (dv_made (ds := [.str "a", .int 1, .int 1]) n10 (by simpa using hp10.ne n10) (.cons (.str (x := "a") (by decide +kernel) (by decide +kernel)) (.cons (.int 1) (.cons (.int 1) .nil))) (by show 3 ≤ 1000; decide))
    generalize upd G10 a10 (.tup [.str "a", .int 1, .int 1]) = G11 at hp11 S11 Z11 A11
    refine ⟨by show 11 ≤ sizeLine; decide, fun s2 ns2 => ?_⟩
    have s2_p : s2 ≠ p := hp11.ne ns2
    obtain ⟨zs, z1, z2⟩ := Z11
    subst z2
    have z1r := (wl_some z1).2
    have s2_s1 : s2 ≠ s1 := fun z => by rw [z, z1r] at ns2; cases ns2
    refine ⟨s1, s2, _, _, rfl, rfl, by rw [upd_ne s2_s1.symm]; exact z1r, upd_same, by show 14 + 11 ≤ sizeLine; decide, fun s3 ns3 => ?_⟩
    obtain ⟨xs0, ds0, e0, at0⟩ := atoms (wl [p] G11)
    have hp12 := hp11.upd (o := .lst ([] ++ [V.ref a0] ++ [V.ref a1] ++ [V.ref a2] ++ [V.ref a3] ++ [V.ref a4] ++ [V.ref a5] ++ [V.ref a6] ++ [V.ref a7] ++ [V.ref a8] ++ [V.ref a9] ++ [V.ref a10])) s2_p
    have T12 := wl_alloc (ms := [p]) (o := .lst ([] ++ [V.ref a0] ++ [V.ref a1] ++ [V.ref a2] ++ [V.ref a3] ++ [V.ref a4] ++ [V.ref a5] ++ [V.ref a6] ++ [V.ref a7] ++ [V.ref a8] ++ [V.ref a9] ++ [V.ref a10])) ns2
    have all := (at0.append A11).stay T12
    rw [← e0] at all
    clear A0 A1 A2 A3 A4 A5 A6 A7 A8 A9 A10 Z0 Z1 Z2 Z3 Z4 Z5 Z6 Z7 Z8 Z9 Z10
    refine ⟨_, rfl, _, rfl, _, rfl, s3, _, rfl, .inl (SqL.of upd_same), p, 25, b, rfl, hp12.upd (hp12.ne ns3), by omega, by omega, by omega, fun G r t hpG hr => ?_⟩
    have T13 := T12.trans ((wl_alloc (ms := [p]) ns3).trans (wl_draw t pm))
    have hs3 := drawn_keeps t (hp12.ne ns3) upd_same
    have all2 := all.stay ((wl_alloc (ms := [p]) ns3).trans (wl_draw t pm))
    have len25 := all2.length
    obtain ⟨w, hw⟩ : ∃ w, ([V.non, .bl true, .bl false, .int (-1), .int 0, .int 999999999, .str "a", .str "A", .str "", .str "9a", .str "longwords", .str "a_", .str "ab ", .str "a\n"] ++ ([] ++ [V.ref a0] ++ [V.ref a1] ++ [V.ref a2] ++ [V.ref a3] ++ [V.ref a4] ++ [V.ref a5] ++ [V.ref a6] ++ [V.ref a7] ++ [V.ref a8] ++ [V.ref a9] ++ [V.ref a10]))[r]? = some w := ⟨_, List.getElem?_eq_getElem (show r < 25 by exact hr)⟩
    obtain ⟨d, _, hd⟩ := all2.get hw
    exact .inl ⟨s3, _, _, w, rfl, rfl, SqL.of hs3, atI_nat hw, q G w d (S11.trans T13) hpG hd⟩
/-! ### _law_bent -/
abbrev s_law_bent : Stmt := topS 39
abbrev N_law_bent : List Str := ["purse", "row", "at", "way"]
abbrev P_law_bent : List Str := ["purse", "row"]
theorem sc_law_bent : FnScope N_law_bent P_law_bent (defScope s_law_bent) := ⟨rfl, rfl, rfl, by decide +kernel, rfl, by decide +kernel, by decide +kernel⟩

def sp_law_bent : Nat → Sp
  | 0 => fun _ _ _ _ => False
  | n + 1 => fun vs H Q _ => ∃ (p : Addr) (b : Nat) (v : V) (d : PyData), vs = [.ref p, v] ∧ Purse H p b ∧ b + 10 * n ≤ 890000 ∧ DV (wl [p] H) v d ∧ Fit n d ∧ ∀ H' v' d', StayT (wl [p] H) (wl [p] H') → Purse H' p (b + 10 * (n + 1)) → DV (wl [p] H') v' d' → Q v' H'
theorem ok_law_bent1 {n : Nat} (F : FnP K "_law_bent" s_law_bent f fd) (fr : Free mg) (c_law_draw : Cal P w K mg base "_law_draw" 2 P_law_draw sp_law_draw) (c_law_odd : Cal P w K mg base "_law_odd" 3 P_law_odd sp_law_odd) (c_law_bent : Cal P w K mg base "_law_bent" (n + 4) P_law_bent (sp_law_bent n)) :
    FnOk P w K mg base (L2.CX P w) (n + 4 + 1) f fd P_law_bent (sp_law_bent (n + 1)) := by
  refine F.ok sc_law_bent (fun vs H Q E h => ?_) (fun cdv A outer s H vs Q E hr h => ⟨_, PSs.nox (pss_cons (ps_if (PW.pt (pw_or (pt_not (pt_val (pe_callB call_isD (by rfl) (fr "isinstance" (by decide)) (by decide +kernel) (pa_cons (pv 1) (pa_cons (pe_ty (n := "tuple") fr) pa_nil))))) (pw_or (pt_cmpR (op_eqU hr.units0) (pv 1) (pe_tup pa_nil) (nomark _)) (pw_or1 (pt_cmpR op_eq (pe_F c_law_draw (hr.mono (by omega)) (pa_cons (pv 0) (pa_cons pe_int pa_nil))) pe_int (nomark _)))))) (pss_one (ps_ret (pe_F c_law_odd (hr.mono (by omega)) (pa_cons (pv 0) pa_nil)))) pss_nil)
    (pss_cons (ps_set (i := 2) sc_law_bent.nd rfl (Or.inl rfl) (pe_F c_law_draw (hr.mono (by omega)) (pa_cons (pv 0) (pa_cons (pe_callB call_lenD' (by rfl) (fr "len" (by decide)) (by decide +kernel) (pa_cons (pv 1) pa_nil)) pa_nil))))
    (pss_cons (ps_set (i := 3) sc_law_bent.nd rfl (Or.inl rfl) (pe_F c_law_draw (hr.mono (by omega)) (pa_cons (pv 0) (pa_cons pe_int pa_nil))))
    (pss_cons (ps_if (pt_cmpR op_eq (pv 3) pe_int (nomark _)) (pss_one (ps_ret (pe_callTy call_list_of (by rfl) (fr "list" (by decide)) (by decide +kernel) (pa_cons (pv 1) pa_nil)))) pss_nil)
    (pss_cons (ps_if (pt_cmpR op_eq (pv 3) pe_int (nomark _)) (pss_one (ps_ret (pe_op catA_K (pe_slice sl_K (pv 1) po_none (po_some (pv 2))) (pe_slice sl_K (pv 1) (po_some (pe_op op_add (pv 2) pe_int)) po_none)))) pss_nil)
    (pss_cons (ps_if (pt_cmpR op_eq (pv 3) pe_int (nomark _)) (pss_one (ps_ret (pe_op catA_K (pv 1) (pe_slice sl_K (pv 1) (po_some (pv 2)) (po_some (pe_op op_add (pv 2) pe_int)))))) pss_nil)
    (pss_cons (ps_if (pt_cmpR op_eq (pv 3) pe_int (nomark _)) (pss_one (ps_ret (pe_op catA_K (pe_op catA_K (pe_slice sl_K (pv 1) po_none (po_some (pv 2))) (pe_tup (pa_cons (pe_ix ix_K (pv 1) (pe_F c_law_draw (hr.mono (by omega)) (pa_cons (pv 0) (pa_cons (pe_callB call_lenD' (by rfl) (fr "len" (by decide)) (by decide +kernel) (pa_cons (pv 1) pa_nil)) pa_nil))) (fun _ _ => rfl)) pa_nil))) (pe_slice sl_K (pv 1) (po_some (pe_op op_add (pv 2) pe_int)) po_none)))) pss_nil)
    (pss_cons (ps_if (pt_cmpR op_eq (pv 3) pe_int (nomark _)) (pss_one (ps_ret (pe_op catA_K (pe_op catA_K (pe_slice sl_K (pv 1) po_none (po_some (pv 2))) (pe_slice sl_K (pv 1) (po_some (pv 2)) (po_some (pe_op op_add (pv 2) pe_int)))) (pe_slice sl_K (pv 1) (po_some (pv 2)) po_none)))) pss_nil)
    (pss_one (ps_ret (pe_op catA_K (pe_op catA_K (pe_slice sl_K (pv 1) po_none (po_some (pv 2))) (pe_tup (pa_cons (pe_F c_law_bent (hr.mono (by omega)) (pa_cons (pv 0) (pa_cons (pe_ix ix_K (pv 1) (pv 2) (fun _ _ => rfl)) pa_nil))) pa_nil))) (pe_slice sl_K (pv 1) (po_some (pe_op op_add (pv 2) pe_int)) po_none)))))))))))), ?_⟩)
  · obtain ⟨p, b, v, d, rfl, _⟩ := h; rfl
  · obtain ⟨p, b, v, d, rfl, hp, hb, hd, fit, q⟩ := h
    have pm : p ∈ [p] := List.mem_singleton.mpr rfl
    have odd : ∀ (D : Ends) (σ : L2.St) (H1 : Hp), σ[0]? = some (some (.ref p)) → StayT (wl [p] H) (wl [p] H1) → Purse H1 p (b + 1) → D.rt = Q → tRet (tCall sp_law_odd [] E0 (tCons (tVar 0) tNil)) D σ H1 := fun D σ H1 h0 s1 hp1 eD => by
      unfold tRet
      rw [eD]
      exact ⟨_, h0, p, b + 1, rfl, hp1, by omega, fun H' v' d' s2 hp2 hd2 => q H' v' d' (s1.trans s2) (hp2.mono (by omega)) hd2⟩
    refine ⟨_, rfl, v, "tuple", d, rfl, hd.out, .inr (.inr (.inr rfl)), _, rfl, ?_⟩
    cases et : isD "tuple" d with
    | false => exact iteT (odd _ _ _ rfl (StayT.refl _) (hp.mono (by omega)) rfl)
    | true =>
    cases n with
    | zero => exact absurd (et.symm.trans fit) (by decide)
    | succ n =>
    obtain ⟨l, rfl⟩ := isD_tuple et
    obtain ⟨fl, fe⟩ := fit l rfl
    refine iteF ⟨_, rfl, by show 0 ≤ sizeLine; decide, fun u nu => ?_⟩
    have u_p : u ≠ p := hp.ne nu
    have s1 := wl_alloc (ms := [p]) (o := .tup []) nu
    refine ⟨_, u, (hd.stay s1).out, rfl, upd_same, _, rfl, ?_⟩
    replace hp := hp.upd (o := .tup []) u_p
    replace hd := hd.stay s1
    generalize upd H u (.tup []) = H1 at s1 hp hd
    clear nu
    cases eu : isUnit (.tuple l) with
    | true => exact iteT (odd _ _ _ rfl s1 (hp.mono (by omega)) rfl)
    | false =>
    have lpos : 1 ≤ l.length := by
      cases l with
      | nil => cases eu
      | cons _ _ => simp
    refine iteF ⟨_, rfl, p, 6, b, rfl, hp, by omega, by omega, by omega, fun H2 r2 t2 hp2 hr2 => ⟨rfl, _, rfl, ?_⟩⟩
    have s2 := s1.trans (wl_draw t2 pm)
    refine iteB (odd _ _ _ rfl s2 hp2 rfl) ?_
    replace hd := hd.stay (wl_draw t2 pm)
    refine ⟨_, rfl, _, rfl, v, _, l.length, rfl, hd.out, rfl, p, l.length, b + 1, rfl, hp2, by omega, by omega, by omega, fun H3 at_ t3 hp3 hat => ?_⟩
    have s3 := s2.trans (wl_draw t3 pm)
    replace hd := hd.stay (wl_draw t3 pm)
    refine ⟨_, rfl, p, 7, b + 1 + 1, rfl, hp3, by omega, by omega, by omega, fun H4 way t4 hp4 hway => ?_⟩
    have s4 := s3.trans (wl_draw t4 pm)
    replace hd := hd.stay (wl_draw t4 pm)
    clear odd hp hp2 hp3 s1 s2 s3 t2 t3 t4
    obtain ⟨a, xs, rfl, ha, hxs, hl1000⟩ := dv_tup hd
    have xl : xs.length = l.length := hxs.length
    -- the ends of the three
    have done : ∀ H' v' d', StayT (wl [p] H4) (wl [p] H') → Purse H' p (b + 10 * (n + 1 + 1)) → DV (wl [p] H') v' d' → Q v' H' := fun H' v' d' s h1 h2 => q H' v' d' (s4.trans s) h1 h2
    clear q
    -- x, then the slice behind it
    have three : ∀ {G : Hp} {k : Nat} {c : Addr} {zs : List V} {m : List PyData} {lo hi : Option Int}, StayT (wl [p] H4) (wl [p] G) → Purse G p k → k ≤ b + 10 * (n + 1 + 1) → wl [p] G c = some (.tup zs) → DVs (wl [p] G) zs m → m.length ≤ 600 →
        rSlA K (.ref a) lo hi G fun y H' => rCatA K (.ref c) y H' Q := fun {G k c zs m lo hi} s hk kb hc hm ml =>
      slice_any hk (s.same _ _ ha fun _ z => nomatch z) (hxs.stay s) fl fun H' a' xs' l' s' hk' ha' hl' ll =>
        cat_any hk' (s'.same _ _ hc fun _ z => nomatch z) (hm.stay s') ha' hl' (by omega) fun H5 a5 xs5 s5 hk5 ha5 hl5 => done H5 _ _ (s.trans (s'.trans s5)) (hk5.mono kb) (.tup ha5 hl5 (by rw [List.length_append]; omega))
    have aS : ∀ {G : Hp}, StayT (wl [p] H4) (wl [p] G) → wl [p] G a = some (.tup xs) := fun s => s.same _ _ ha fun _ z => nomatch z
    refine ⟨_, rfl, rfl, _, rfl, iteB ?_ ?_⟩
    · refine ⟨_, rfl, a, xs, rfl, .inr (SqT.of (wl_some ha).2), fun t nt => ?_⟩
      exact done _ _ (.list l) (wl_alloc nt) ((hp4.upd (hp4.ne nt)).mono (by omega)) (dv_madeL nt (by simpa using hp4.ne nt) hxs hl1000)
    refine ⟨_, rfl, rfl, _, rfl, iteB ?_ ?_⟩
    · refine ⟨_, rfl, _, rfl, _, rfl, ?_⟩
      refine slice_any hp4 ha hxs fl fun G a1 xs1 l1 s1 hk1 ha1 hl1 ll1 => ⟨_, rfl, _, rfl, _, _, rfl, rfl, _, rfl, ?_⟩
      exact three s1 hk1 (by omega) ha1 hl1 (by omega)
    refine ⟨_, rfl, rfl, _, rfl, iteB ?_ ?_⟩
    · refine ⟨_, rfl, _, rfl, _, rfl, _, rfl, _, rfl, _, _, rfl, rfl, _, rfl, ?_⟩
      exact three (StayT.refl _) hp4 (by omega) ha hxs (by omega)
    refine ⟨_, rfl, rfl, _, rfl, iteB ?_ ?_⟩
    · refine ⟨_, rfl, _, rfl, _, rfl, ?_⟩
      refine slice_any hp4 ha hxs fl fun G a1 xs1 l1 s1 hk1 ha1 hl1 ll1 => ?_
      refine ⟨_, rfl, _, rfl, _, rfl, _, _, l.length, rfl, (hd.stay s1).out, rfl, p, l.length, _, rfl, hk1, by omega, by omega, by omega, fun G2 r2 t2 hp2 hr2 => ?_⟩
      have s2 := s1.trans (wl_draw t2 pm)
      obtain ⟨e, he⟩ : ∃ e, xs[r2]? = some e := ⟨_, List.getElem?_eq_getElem (by omega)⟩
      obtain ⟨de, hde, hee⟩ := (hxs.stay s2).get he
      refine .inr (.inl ⟨a, xs, _, e, rfl, rfl, SqT.of (wl_some (aS s2)).2, atI_nat he, by show 1 ≤ sizeLine; decide, fun tq ntq => ?_⟩)
      have tq_p : tq ≠ p := hp2.ne ntq
      have s3 := wl_alloc (ms := [p]) (o := .tup [e]) ntq
      refine cat_any (hp2.upd tq_p) (s3.same _ _ ((wl_draw t2 pm).same _ _ ha1 fun _ z => nomatch z) fun _ z => nomatch z) ((hl1.stay (wl_draw t2 pm)).stay s3) (ys := [e]) (l2 := [de]) (by rw [wl_upd_out (by simpa using tq_p), upd_same]) (.one (hee.stay s3)) (by simp; omega) fun G5 a5 xs5 s5 hk5 ha5 hl5 => ⟨_, rfl, _, rfl, _, _, rfl, rfl, _, rfl, ?_⟩
      exact three (s2.trans (s3.trans s5)) hk5 (by omega) ha5 hl5 (by rw [List.length_append]; simp; omega)
    refine ⟨_, rfl, rfl, _, rfl, iteB ?_ ?_⟩
    · refine ⟨_, rfl, _, rfl, _, rfl, ?_⟩
      refine slice_any hp4 ha hxs fl fun G a1 xs1 l1 s1 hk1 ha1 hl1 ll1 => ⟨_, rfl, _, rfl, _, rfl, _, rfl, _, _, rfl, rfl, _, rfl, ?_⟩
      refine slice_any hk1 (aS s1) (hxs.stay s1) fl fun G2 a2 xs2 l2 s2 hk2 ha2 hl2 ll2 => ?_
      refine cat_any hk2 (s2.same _ _ ha1 fun _ z => nomatch z) (hl1.stay s2) ha2 hl2 (by omega) fun G5 a5 xs5 s5 hk5 ha5 hl5 => ⟨_, rfl, _, rfl, _, rfl, ?_⟩
      exact three (s1.trans (s2.trans s5)) hk5 (by omega) ha5 hl5 (by rw [List.length_append]; omega)
    · refine ⟨_, rfl, _, rfl, _, rfl, ?_⟩
      refine slice_any hp4 ha hxs fl fun G a1 xs1 l1 s1 hk1 ha1 hl1 ll1 => ?_
      obtain ⟨e, he⟩ : ∃ e, xs[at_]? = some e := ⟨_, List.getElem?_eq_getElem (by omega)⟩
      obtain ⟨de, hde, hee⟩ := (hxs.stay s1).get he
      refine ⟨_, rfl, _, rfl, _, rfl, .inr (.inl ⟨a, xs, _, e, rfl, rfl, SqT.of (wl_some (aS s1)).2, atI_nat he, p, _, e, de, rfl, hk1, by omega, hee, fe de (List.mem_of_getElem? hde), fun G2 v2 d2 t2 hp2 hd2 => ⟨by show 1 ≤ sizeLine; decide, fun tq ntq => ?_⟩⟩)⟩
      have s2 := s1.trans t2
      have tq_p : tq ≠ p := hp2.ne ntq
      have s3 := wl_alloc (ms := [p]) (o := .tup [v2]) ntq
      refine cat_any (hp2.upd tq_p) (s3.same _ _ (t2.same _ _ ha1 fun _ z => nomatch z) fun _ z => nomatch z) ((hl1.stay t2).stay s3) (ys := [v2]) (l2 := [d2]) (by rw [wl_upd_out (by simpa using tq_p), upd_same]) (.one (hd2.stay s3)) (by simp; omega) fun G5 a5 xs5 s5 hk5 ha5 hl5 => ⟨_, rfl, _, rfl, _, _, rfl, rfl, _, rfl, ?_⟩
      exact three (s2.trans (s3.trans s5)) hk5 (by omega) ha5 hl5 (by rw [List.length_append]; simp; omega)
end
end WR
namespace WR
open PySem PySem.Spec PyProof.Rows L2
section
variable {P : Program} {w : World} {K : PySem.W.Frag} {mg : Str → Option Value} {base : Heap} {f : Addr} {fd : FuncData} {T : Addr}
/-! ### what never gets past check_standing -/
def sp_way (T CT CS : Addr) : Sp := fun vs H _ E => ∃ v d v2 d2, vs = [v, v2] ∧ DV H v d ∧ DV H v2 d2 ∧ TG T H ∧ (townWrong d ≠ .none ∨ standingWrong d d2 ≠ .none) ∧ (townWrong d ≠ .none → RaisesF CT "wrong" (townWrong d) H E) ∧ (townWrong d = .none → standingWrong d d2 ≠ .none → RaisesF CS "wrong" (standingWrong d d2) H E)
abbrev s_wealths : Stmt := topS 20
abbrev N_wealths : List Str := ["town", "standing"]
abbrev P_wealths : List Str := ["town", "standing"]
theorem sc_wealths : FnScope N_wealths P_wealths (defScope s_wealths) := ⟨rfl, rfl, rfl, by decide +kernel, rfl, by decide +kernel, by decide +kernel⟩

theorem ok_wealths {CT CS : Addr} (F : FnP K "wealths" s_wealths f fd) (fr : Free mg) (c_check_standing : Cal P w K mg base "check_standing" 7 P_check_standing (sp_check_standing T CT CS)) :
    FnOk P w K mg base (L2.CX P w) 8 f fd P_wealths (sp_way T CT CS) := by
  refine F.ok sc_wealths (fun vs H Q E h => ?_) (fun cdv A outer s H vs Q E hr h => ⟨_, (pss_cons (ps_expr (pe_X (W := fun cls d _ H => E cls d H) c_check_standing (hr.mono (by omega)) (takes_of (E := E) rfl rfl rfl rfl) (pa_cons (pv 0) (pa_cons (pv 1) pa_nil))))
    pss_never), ?_⟩)
  · obtain ⟨v, d, v2, d2, rfl, _⟩ := h; rfl
  · obtain ⟨v, d, v2, d2, rfl, hd, hd2, tg, n, x⟩ := h
    exact ⟨v, rfl, v2, rfl, v, d, v2, d2, rfl, hd, hd2, tg, fun a b => (n.elim (fun z => z a) fun z => z b).elim, x⟩
abbrev s_stands_of : Stmt := topS 21
abbrev N_stands_of : List Str := ["town", "standing"]
abbrev P_stands_of : List Str := ["town", "standing"]
theorem sc_stands_of : FnScope N_stands_of P_stands_of (defScope s_stands_of) := ⟨rfl, rfl, rfl, by decide +kernel, rfl, by decide +kernel, by decide +kernel⟩

theorem ok_stands_of {CT CS : Addr} (F : FnP K "stands_of" s_stands_of f fd) (fr : Free mg) (c_check_standing : Cal P w K mg base "check_standing" 7 P_check_standing (sp_check_standing T CT CS)) :
    FnOk P w K mg base (L2.CX P w) 8 f fd P_stands_of (sp_way T CT CS) := by
  refine F.ok sc_stands_of (fun vs H Q E h => ?_) (fun cdv A outer s H vs Q E hr h => ⟨_, (pss_cons (ps_expr (pe_X (W := fun cls d _ H => E cls d H) c_check_standing (hr.mono (by omega)) (takes_of (E := E) rfl rfl rfl rfl) (pa_cons (pv 0) (pa_cons (pv 1) pa_nil))))
    pss_never), ?_⟩)
  · obtain ⟨v, d, v2, d2, rfl, _⟩ := h; rfl
  · obtain ⟨v, d, v2, d2, rfl, hd, hd2, tg, n, x⟩ := h
    exact ⟨v, rfl, v2, rfl, v, d, v2, d2, rfl, hd, hd2, tg, fun a b => (n.elim (fun z => z a) fun z => z b).elim, x⟩
abbrev s_may : Stmt := topS 25
abbrev N_may : List Str := ["town", "standing", "homes", "roads", "ends", "found", "road", "one", "other"]
abbrev P_may : List Str := ["town", "standing"]
theorem sc_may : FnScope N_may P_may (defScope s_may) := ⟨rfl, rfl, rfl, by decide +kernel, rfl, by decide +kernel, by decide +kernel⟩

theorem ok_may {CT CS : Addr} (F : FnP K "may" s_may f fd) (fr : Free mg) (c_check_standing : Cal P w K mg base "check_standing" 7 P_check_standing (sp_check_standing T CT CS)) :
    FnOk P w K mg base (L2.CX P w) 8 f fd P_may (sp_way T CT CS) := by
  refine F.ok sc_may (fun vs H Q E h => ?_) (fun cdv A outer s H vs Q E hr h => ⟨_, (pss_cons (ps_expr (pe_X (W := fun cls d _ H => E cls d H) c_check_standing (hr.mono (by omega)) (takes_of (E := E) rfl rfl rfl rfl) (pa_cons (pv 0) (pa_cons (pv 1) pa_nil))))
    pss_never), ?_⟩)
  · obtain ⟨v, d, v2, d2, rfl, _⟩ := h; rfl
  · obtain ⟨v, d, v2, d2, rfl, hd, hd2, tg, n, x⟩ := h
    exact ⟨v, rfl, v2, rfl, v, d, v2, d2, rfl, hd, hd2, tg, fun a b => (n.elim (fun z => z a) fun z => z b).elim, x⟩
end
end WR
namespace WR
open PySem PySem.Spec PyProof.Rows L2
/-- what is told of what was caught -/
def caughtD (d d2 : PyData) : PyData := match townWrong d with
  | .none => .list [.str "standing", standingWrong d d2]
  | w => .list [.str "town", w]
/-- what must be so of the classes -/
structure Classes (K : PySem.W.Frag) (CE CT CS : Addr) : Prop where
  t1 : PySem.W.exmOne K (.ref CT) (.ref CE) = some true
  t2 : PySem.W.exmOne K (.ref CS) (.ref CE) = some true
  i1 : PySem.W.kitOne K (.ref CT) (.ref CT) = some true
  i2 : PySem.W.kitOne K (.ref CS) (.ref CT) = some false
  i3 : PySem.W.kitOne K (.ref CS) (.ref CS) = some true
theorem tail_kept {K : PySem.W.Frag} {CT CS cls : Addr} {ts3 : TS} {D : Ends} {σ : L2.St} {H : Hp} {a dd : Addr} {r : V} {bT : Bool} (h3 : σ[3]? = some (some (.ref a))) (ea : H a = some (ExK (.ref cls) (some dd) a)) (ed : H dd = some (.xd [("wrong", r)])) (IC : ExcI K cls) (nof : PySem.W.findIn K (.ref cls) "wrong" = some none)
    (b1 : PySem.W.kitOne K (.ref cls) (.ref CT) = some bT) (b2 : bT = false → PySem.W.kitOne K (.ref cls) (.ref CS) = some true) (q : ∀ l, H l = none → D.rt (.ref l) (upd H l (.lst [.str (if bT = true then "town" else "standing"), r]))) :
    tSeq (tIfS (tB (tCB (rIsK K) (tCons (tVar 3) (tCons (tC (.ref CT)) tNil)))) (tRet (tLst (tCons (tC (.str "town")) (tCons (tKept K "wrong" (tVar 3)) tNil)))) tNext) (tSeq (tIfS (tB (tCB (rIsK K) (tCons (tVar 3) (tCons (tC (.ref CS)) tNil)))) (tRet (tLst (tCons (tC (.str "standing")) (tCons (tKept K "wrong" (tVar 3)) tNil)))) tNext) ts3) D σ H := by
  have kept : Kept K H (.ref a) (.ref cls) := .exc ea (.inr ⟨dd, _, rfl, ed⟩) IC
  refine ⟨_, h3, _, _, _, _, bT, rfl, .own CT, kept, b1, _, rfl, ?_⟩
  cases bT with
  | true => exact iteT ⟨_, h3, a, cls, dd, _, r, rfl, ea, ed, IC, nof, rfl, by show 2 ≤ sizeLine; decide, q⟩
  | false => exact iteF ⟨_, h3, _, _, _, _, true, rfl, .own CS, kept, b2 rfl, _, rfl, iteT ⟨_, h3, a, cls, dd, _, r, rfl, ea, ed, IC, nof, rfl, by show 2 ≤ sizeLine; decide, q⟩⟩
section
variable {P : Program} {w : World} {K : PySem.W.Frag} {mg : Str → Option Value} {base : Heap} {f : Addr} {fd : FuncData} {T : Addr}
/-! ### _law_caught -/
abbrev s_law_caught : Stmt := topS 40
abbrev N_law_caught : List Str := ["way", "town", "standing", "caught", "e"]
abbrev P_law_caught : List Str := ["way", "town", "standing"]
theorem sc_law_caught : FnScope N_law_caught P_law_caught (defScope s_law_caught) := ⟨rfl, rfl, rfl, by decide +kernel, rfl, by decide +kernel, by decide +kernel⟩

def sp_law_caught (T : Addr) : Sp := fun vs H Q _ => ∃ (k : Nat) (v : V) (d : PyData) (v2 : V) (d2 : PyData), vs = [.int k, v, v2] ∧ k ≤ 3 ∧ DV H v d ∧ DV H v2 d2 ∧ TG T H ∧ (townWrong d ≠ .none ∨ 1 ≤ k ∧ standingWrong d d2 ≠ .none) ∧ ∀ H' r, StayT H H' → DV H' r (caughtD d d2) → Q r H'
theorem ok_law_caught {CE CT CS : Addr} (F : FnP K "_law_caught" s_law_caught f fd) (fr : Free mg) (g_TownError : mg "TownError" = some (.ref CE)) (C : Classes K CE CT CS) (x_NoTown : ExcF P w K mg base "NoTown" "wrong" CT) (x_NoStanding : ExcF P w K mg base "NoStanding" "wrong" CS)
    (c_standing_wrong : Cal P w K mg base "standing_wrong" 6 P_standing_wrong (sp_standing_wrong T CT)) (c_wealths : Cal P w K mg base "wealths" 8 P_wealths (sp_way T CT CS)) (c_stands_of : Cal P w K mg base "stands_of" 8 P_stands_of (sp_way T CT CS)) (c_may : Cal P w K mg base "may" 8 P_may (sp_way T CT CS)) :
    FnOk P w K mg base (L2.CX P w) 9 f fd P_law_caught (sp_law_caught T) := by
  have g_NoTown := x_NoTown.nm
  have g_NoStanding := x_NoStanding.nm
  refine F.ok sc_law_caught (fun vs H Q E h => ?_) (fun cdv A outer s H vs Q E hr h => ⟨_, PSs.nox (pss_cons (ps_set (i := 3) sc_law_caught.nd rfl (Or.inl rfl) pe_non)
    (pss_cons (ps_try_keep rfl rfl rfl sc_law_caught.nd rfl rfl rfl rfl (⟨rfl, by decide, Or.inl g_TownError⟩) (i := 4) (j := 3) (tb := fun W => _) (fun W pn xe tk _ => (pss_one (ps_if (pt_cmpR op_eq (pv 0) pe_int (nomark _)) (pss_one (ps_expr (pe_X (W := W) c_standing_wrong (hr.mono (by omega)) tk (pa_cons (pv 1) (pa_cons (pv 2) pa_nil))))) (pss_one (ps_if (pt_cmpR op_eq (pv 0) pe_int (nomark _)) (pss_one (ps_expr (pe_X (W := W) c_wealths (hr.mono (by omega)) tk (pa_cons (pv 1) (pa_cons (pv 2) pa_nil))))) (pss_one (ps_if (pt_cmpR op_eq (pv 0) pe_int (nomark _)) (pss_one (ps_expr (pe_X (W := W) c_stands_of (hr.mono (by omega)) tk (pa_cons (pv 1) (pa_cons (pv 2) pa_nil))))) (pss_one (ps_expr (pe_X (W := W) c_may (hr.mono (by omega)) tk (pa_cons (pv 1) (pa_cons (pv 2) pa_nil)))))))))))))
    (pss_cons (ps_if (pt_val (pe_callB call_isK (by rfl) (fr "isinstance" (by decide)) (by decide +kernel) (pa_cons (pv 3) (pa_cons (pe_gR g_NoTown) pa_nil)))) (pss_one (ps_ret (pe_lst (pa_cons pe_str (pa_cons (pe_kept (pv 3)) pa_nil))))) pss_nil)
    (pss_cons (ps_if (pt_val (pe_callB call_isK (by rfl) (fr "isinstance" (by decide)) (by decide +kernel) (pa_cons (pv 3) (pa_cons (pe_gR g_NoStanding) pa_nil)))) (pss_one (ps_ret (pe_lst (pa_cons pe_str (pa_cons (pe_kept (pv 3)) pa_nil))))) pss_nil)
    (pss_one (ps_ret (pe_lst (pa_cons (pe_cmpR op_isN (pv 3) pe_non (nomark _)) pa_nil)))))))), ?_⟩)
  · obtain ⟨k, v, d, v2, d2, rfl, _⟩ := h; rfl
  · obtain ⟨k, v, d, v2, d2, rfl, hk, hd, hd2, tg, some, q⟩ := h
    refine ⟨_, rfl, ?_⟩
    have raT : townWrong d ≠ .none → caughtD d d2 = .list [.str "town", townWrong d] := fun ne => by
      unfold caughtD
      split
      · rename_i e; exact absurd e ne
      · rfl
    have raS : townWrong d = .none → caughtD d d2 = .list [.str "standing", standingWrong d d2] := fun e => by
      unfold caughtD; rw [e]
    have outT : ∀ (ne : townWrong d ≠ .none) H1 dd r, StayT H H1 → H1 dd = Option.some (.xd [("wrong", r)]) → DV H1 r (townWrong d) → ∀ a, H1 a = Option.none → ∀ ts3 (D : Ends) (σ : L2.St), D.rt = Q → σ[3]? = Option.some (Option.some (.ref a)) →
        tSeq (tIfS (tB (tCB (rIsK K) (tCons (tVar 3) (tCons (tC (.ref CT)) tNil)))) (tRet (tLst (tCons (tC (.str "town")) (tCons (tKept K "wrong" (tVar 3)) tNil)))) tNext) (tSeq (tIfS (tB (tCB (rIsK K) (tCons (tVar 3) (tCons (tC (.ref CS)) tNil)))) (tRet (tLst (tCons (tC (.str "standing")) (tCons (tKept K "wrong" (tVar 3)) tNil)))) tNext) ts3) D σ (upd H1 a (ExK (.ref CT) (Option.some dd) a)) := fun ne H1 dd r s1 e1 hr1 a na ts3 D σ eD h3 =>
      tail_kept (bT := true) h3 upd_same (by rw [upd_ne (ne_of_none e1 na)]; exact e1) x_NoTown.isi x_NoTown.nof C.i1 (fun z => by cases z) fun l nl => by
        have s2 := s1.new (o := ExK (.ref CT) (Option.some dd) a) na
        rw [eD]
        refine q _ _ (s2.new nl) ?_
        rw [raT ne]
        exact .lst upd_same (.two (.str (by decide +kernel) (by decide +kernel)) ((hr1.stay ((StayT.refl H1).new na)).stay ((StayT.refl _).new nl))) (by show 2 ≤ 1000; decide)
    have outS : ∀ (e : townWrong d = .none) H1 dd r, StayT H H1 → H1 dd = Option.some (.xd [("wrong", r)]) → DV H1 r (standingWrong d d2) → ∀ a, H1 a = Option.none → ∀ ts3 (D : Ends) (σ : L2.St), D.rt = Q → σ[3]? = Option.some (Option.some (.ref a)) →
        tSeq (tIfS (tB (tCB (rIsK K) (tCons (tVar 3) (tCons (tC (.ref CT)) tNil)))) (tRet (tLst (tCons (tC (.str "town")) (tCons (tKept K "wrong" (tVar 3)) tNil)))) tNext) (tSeq (tIfS (tB (tCB (rIsK K) (tCons (tVar 3) (tCons (tC (.ref CS)) tNil)))) (tRet (tLst (tCons (tC (.str "standing")) (tCons (tKept K "wrong" (tVar 3)) tNil)))) tNext) ts3) D σ (upd H1 a (ExK (.ref CS) (Option.some dd) a)) := fun e H1 dd r s1 e1 hr1 a na ts3 D σ eD h3 =>
      tail_kept (bT := false) h3 upd_same (by rw [upd_ne (ne_of_none e1 na)]; exact e1) x_NoStanding.isi x_NoStanding.nof C.i2 (fun _ => C.i3) fun l nl => by
        have s2 := s1.new (o := ExK (.ref CS) (Option.some dd) a) na
        rw [eD]
        refine q _ _ (s2.new nl) ?_
        rw [raS e]
        exact .lst upd_same (.two (.str (by decide +kernel) (by decide +kernel)) ((hr1.stay ((StayT.refl H1).new na)).stay ((StayT.refl _).new nl))) (by show 2 ≤ 1000; decide)
    refine ⟨rfl, _, rfl, ?_⟩
    by_cases k0 : (V.int (k : Nat) = V.int 0)
    · rw [decide_eq_true k0]
      have k00 : k = 0 := by injection k0 with z; omega
      have ne : townWrong d ≠ .none := some.elim id fun z => absurd z.1 (by omega)
      exact iteT ⟨_, rfl, _, rfl, v, d, v2, d2, rfl, hd, hd2, tg, fun z => absurd z ne, fun ne H1 dd r s1 e1 hr1 => ⟨C.t1, fun a na => outT ne H1 dd r s1 e1 hr1 a na _ _ _ rfl rfl⟩⟩
    rw [decide_eq_false k0]
    have way : townWrong d ≠ .none ∨ standingWrong d d2 ≠ .none := some.elim .inl fun z => .inr z.2
    refine iteF ⟨_, rfl, rfl, _, rfl, iteB ?_ ⟨_, rfl, rfl, _, rfl, iteB ?_ ?_⟩⟩
    · exact ⟨_, rfl, _, rfl, v, d, v2, d2, rfl, hd, hd2, tg, way, fun ne H1 dd r s1 e1 hr1 => ⟨C.t1, fun a na => outT ne H1 dd r s1 e1 hr1 a na _ _ _ rfl rfl⟩, fun e _ H1 dd r s1 e1 hr1 => ⟨C.t2, fun a na => outS e H1 dd r s1 e1 hr1 a na _ _ _ rfl rfl⟩⟩
    · exact ⟨_, rfl, _, rfl, v, d, v2, d2, rfl, hd, hd2, tg, way, fun ne H1 dd r s1 e1 hr1 => ⟨C.t1, fun a na => outT ne H1 dd r s1 e1 hr1 a na _ _ _ rfl rfl⟩, fun e _ H1 dd r s1 e1 hr1 => ⟨C.t2, fun a na => outS e H1 dd r s1 e1 hr1 a na _ _ _ rfl rfl⟩⟩
    · exact ⟨_, rfl, _, rfl, v, d, v2, d2, rfl, hd, hd2, tg, way, fun ne H1 dd r s1 e1 hr1 => ⟨C.t1, fun a na => outT ne H1 dd r s1 e1 hr1 a na _ _ _ rfl rfl⟩, fun e _ H1 dd r s1 e1 hr1 => ⟨C.t2, fun a na => outS e H1 dd r s1 e1 hr1 a na _ _ _ rfl rfl⟩⟩
end
end WR
namespace WR
open PySem PySem.Spec PyProof.Rows L2
/-- what wrongs look like -/
def Wrong (d : PyData) : Prop := d = .none ∨ (∃ s, d = .tuple [.str s]) ∨ ∃ s i, d = .tuple [.str s, .int i]
theorem wrong_town (d : PyData) : Wrong (townWrong d) := by
  unfold townWrong
  split
  · rename_i h hs rs
    rcases bad_shape (h :: hs) 0 [] with z | ⟨i, z⟩
    · rw [z]
      rcases badR_shape rs 0 ((h :: hs).map entryName) [] with z2 | ⟨i, z2⟩
      · rw [z2]; exact .inl rfl
      · rw [z2]; exact .inr (.inr ⟨_, _, rfl⟩)
    · rw [z]; exact .inr (.inr ⟨_, _, rfl⟩)
  · exact .inr (.inl ⟨_, rfl⟩)
theorem wrong_standing (d d2 : PyData) : Wrong (standingWrong d d2) := by
  unfold standingWrong
  split
  · rename_i l
    split
    · rcases badH_shape l 0 [] with z | ⟨i, z⟩
      · rw [z]; exact .inl rfl
      · rw [z]; exact .inr (.inr ⟨_, _, rfl⟩)
    · exact .inr (.inl ⟨_, rfl⟩)
  · exact .inr (.inl ⟨_, rfl⟩)
theorem eqv_int (i j : Int) : (PyData.int i).eqv (.int j) = decide (i = j) := by
  simp only [PyData.eqv]
  by_cases h : i = j <;> simp [h]
theorem Wrong.plain {d : PyData} (h : Wrong d) : d.hasDict = false ∧ d.depth ≤ 1 ∧ d.eqv d = true := by
  rcases h with rfl | ⟨s, rfl⟩ | ⟨s, i, rfl⟩
  · exact ⟨rfl, Nat.zero_le _, by simp only [PyData.eqv]⟩
  · refine ⟨rfl, by show 1 ≤ 1; decide, ?_⟩
    have e : (PyData.tuple [.str s]).eqv (.tuple [.str s]) = ((PyData.str s).eqv (.str s)) := by simp only [PyData.eqv, PyData.eqvAll, Bool.and_true]
    rw [e, eqv_str]; simp
  · refine ⟨rfl, by show 1 ≤ 1; decide, ?_⟩
    have e : (PyData.tuple [.str s, .int i]).eqv (.tuple [.str s, .int i]) = ((PyData.str s).eqv (.str s) && (PyData.int i).eqv (.int i)) := by simp only [PyData.eqv, PyData.eqvAll, Bool.and_true]
    rw [e, eqv_str, eqv_int]; simp
theorem Wrong.told {s : Str} {d : PyData} (h : Wrong d) : (PyData.list [.str s, d]).hasDict = false ∧ (PyData.list [.str s, d]).depth ≤ 64 ∧ (PyData.list [.str s, d]).eqv (.list [.str s, d]) = true := by
  obtain ⟨h1, h2, h3⟩ := h.plain
  refine ⟨?_, ?_, ?_⟩
  · simp only [PyData.hasDict, PyData.hasDictAll, h1, Bool.or_self]
  · simp only [PyData.depth, PyData.depthAll]; omega
  · have e : (PyData.list [.str s, d]).eqv (.list [.str s, d]) = ((PyData.str s).eqv (.str s) && d.eqv d) := by simp only [PyData.eqv, PyData.eqvAll, Bool.and_true]
    rw [e, eqv_str, h3]; simp
section
variable {P : Program} {w : World} {K : PySem.W.Frag} {mg : Str → Option Value} {base : Heap} {f : Addr} {fd : FuncData} {T : Addr}
/-! ### _law_right -/
abbrev s_law_right : Stmt := topS 41
abbrev N_law_right : List Str := ["town", "standing", "due", "way"]
abbrev P_law_right : List Str := ["town", "standing"]
theorem sc_law_right : FnScope N_law_right P_law_right (defScope s_law_right) := ⟨rfl, rfl, rfl, by decide +kernel, rfl, by decide +kernel, by decide +kernel⟩

def sp_law_right (T : Addr) : Sp := fun vs H Q _ => ∃ (v : V) (d : PyData) (v2 : V) (d2 : PyData), vs = [v, v2] ∧ DV H v d ∧ DV H v2 d2 ∧ TG T H ∧ ∀ H', StayT H H' → Q (.bl true) H'
theorem ok_law_right {CT : Addr} (F : FnP K "_law_right" s_law_right f fd) (fr : Free mg) (c_law_town_due : Cal P w K mg base "_law_town_due" 2 P_law_town_due sp_law_town_due) (c_law_standing_due : Cal P w K mg base "_law_standing_due" 2 P_law_standing_due sp_law_standing_due)
    (c_town_wrong : Cal P w K mg base "town_wrong" 4 P_town_wrong (sp_town_wrong T)) (c_standing_wrong : Cal P w K mg base "standing_wrong" 6 P_standing_wrong (sp_standing_wrong T CT)) (c_law_caught : Cal P w K mg base "_law_caught" 9 P_law_caught (sp_law_caught T)) :
    FnOk P w K mg base (L2.CX P w) 10 f fd P_law_right (sp_law_right T) := by
  refine F.ok sc_law_right (fun vs H Q E h => ?_) (fun cdv A outer s H vs Q E hr h => ⟨_, PSs.nox (pss_cons (ps_set (i := 2) sc_law_right.nd rfl (Or.inr rfl) (pe_F c_law_town_due (hr.mono (by omega)) (pa_cons (pv 0) pa_nil)))
    (pss_cons (ps_if (pt_cmpR (op_neDD hr.units) (pe_F c_town_wrong (hr.mono (by omega)) (pa_cons (pv 0) pa_nil)) (pv 2) (nomark _)) (pss_one (ps_ret pe_bl)) pss_nil)
    (pss_cons (ps_if (pt_cmpR op_notN (pv 2) pe_non (nomark _)) (pss_one (ps_ret (pe_cmpR (op_eqL hr.units0) (pe_lc (own := [("way", 3)]) (g := gName 3) rfl sc_law_right.nd (pi_range1 rfl (fr "range" (by decide)) (pa_cons pe_int pa_nil)) (blkOk_by (N := N_law_right) (sc := defScope s_law_right) (by decide +kernel)) (fun _ _ _ _ _ => (pg_name (i := 3) sc_law_right.nd rfl (Or.inl rfl))) (fun _ _ _ _ _ => by exact (pts_one (pt_cmpR (op_neDD hr.units) (pe_F c_law_caught (hr.mono (by omega)) (pa_cons (pv 3) (pa_cons (pv 0) (pa_cons (pv 1) pa_nil)))) (pe_lst (pa_cons pe_str (pa_cons (pv 2) pa_nil))) (nomark _)))) (fun _ _ _ _ _ => by exact (pv 3))) (pe_lst pa_nil) (nomark _)))) pss_nil)
    (pss_cons (ps_set (i := 2) sc_law_right.nd rfl (Or.inr rfl) (pe_F c_law_standing_due (hr.mono (by omega)) (pa_cons (pv 0) (pa_cons (pv 1) pa_nil))))
    (pss_cons (ps_if (pt_cmpR (op_neDD hr.units) (pe_F c_standing_wrong (hr.mono (by omega)) (pa_cons (pv 0) (pa_cons (pv 1) pa_nil))) (pv 2) (nomark _)) (pss_one (ps_ret pe_bl)) pss_nil)
    (pss_cons (ps_if (pt_cmpR op_isN (pv 2) pe_non (nomark _)) (pss_one (ps_ret pe_bl)) pss_nil)
    (pss_one (ps_ret (pe_cmpR (op_eqL hr.units0) (pe_lc (own := [("way", 3)]) (g := gName 3) rfl sc_law_right.nd (pi_range2 rfl (fr "range" (by decide)) (pa_cons pe_int (pa_cons pe_int pa_nil))) (blkOk_by (N := N_law_right) (sc := defScope s_law_right) (by decide +kernel)) (fun _ _ _ _ _ => (pg_name (i := 3) sc_law_right.nd rfl (Or.inl rfl))) (fun _ _ _ _ _ => by exact (pts_one (pt_cmpR (op_neDD hr.units) (pe_F c_law_caught (hr.mono (by omega)) (pa_cons (pv 3) (pa_cons (pv 0) (pa_cons (pv 1) pa_nil)))) (pe_lst (pa_cons pe_str (pa_cons (pv 2) pa_nil))) (nomark _)))) (fun _ _ _ _ _ => by exact (pv 3))) (pe_lst pa_nil) (nomark _)))))))))), ?_⟩)
  · obtain ⟨v, d, v2, d2, rfl, _⟩ := h; rfl
  · obtain ⟨v, d, v2, d2, rfl, hd, hd2, tg, q⟩ := h
    have wt := wrong_town d
    obtain ⟨p1, p2, p3⟩ := wt.plain
    refine ⟨_, rfl, v, d, rfl, hd, fun H1 due s1 hdue => ?_⟩
    refine ⟨_, rfl, v, d, rfl, hd.stay s1, s1.tabG tg, fun H2 r s2 hr2 => ?_⟩
    refine ⟨_, rfl, _, _, hr2, hdue.stay s2, p1, p1, Nat.le_trans p2 (by decide), Nat.le_trans p2 (by decide), _, rfl, ?_⟩
    rw [p3]
    refine iteF ⟨_, rfl, rfl, _, rfl, ?_⟩
    replace hdue := hdue.stay s2
    have s3 := s1.trans s2
    clear hr2 s1 s2
    by_cases z : townWrong d = .none
    case neg =>
      have nr : due ≠ .non := fun e => by
        rw [e] at hdue
        cases hh : townWrong d with
        | none => exact z hh
        | _ => rw [hh] at hdue; cases hdue
      rw [decide_eq_false nr]
      refine iteT ⟨4, rfl, by decide, by decide, fun D nD => ?_⟩
      refine lc_sift2 (walk_rangeAt (lo := 0) (n := 4)) nD (by show 3 < 4; decide) (by decide) (fun _ _ => trivial) (fun i x H4 hi hx s4 R r => ?_) (fun H4 s4 hD => ?_)
      · have hx2 : x = .int (i : Nat) := by
          rw [List.getElem?_map, List.getElem?_range hi] at hx
          have := Option.some.inj hx
          rw [← this]; show V.int (0 + (i : Int)) = _; rw [Int.zero_add]
        subst hx2
        have s34 := s3.trans s4
        refine ⟨_, rfl, _, rfl, _, rfl, i, v, d, v2, d2, rfl, by omega, hd.stay s34, hd2.stay s34, s34.tabG tg, .inl z, fun H5 rc s5 hrc => ?_⟩
        have ec : caughtD d d2 = .list [.str "town", townWrong d] := by
          unfold caughtD
          split
          · rename_i e; exact absurd e z
          · rfl
        rw [ec] at hrc
        refine ⟨_, rfl, by show 2 ≤ sizeLine; decide, fun l nl => ?_⟩
        obtain ⟨t1, t2, t3⟩ := wt.told (s := "town")
        have dl : DV (upd H5 l (.lst [.str "town", due])) (.ref l) (.list [.str "town", townWrong d]) := .lst upd_same (.two (.str (by decide +kernel) (by decide +kernel)) ((hdue.stay (s4.trans s5)).stay ((StayT.refl _).new nl))) (by show 2 ≤ 1000; decide)
        refine ⟨_, _, hrc.stay ((StayT.refl _).new nl), dl, t1, t1, t2, t2, _, rfl, ?_⟩
        rw [t3]
        exact r _ (s5.new nl)
      · refine ⟨by show 0 ≤ sizeLine; decide, fun b nb => ⟨D, b, [], rfl, rfl, by rw [upd_ne (ne_of_none hD nb)]; exact hD, upd_same, q _ ((s3.trans s4).new nb)⟩⟩
    have edue : due = .non := by rw [z] at hdue; cases hdue; rfl
    rw [decide_eq_true edue]
    subst edue
    have ws := wrong_standing d d2
    obtain ⟨u1, u2, u3⟩ := ws.plain
    refine iteF ⟨_, rfl, _, rfl, v, d, v2, d2, rfl, hd.stay s3, hd2.stay s3, z, fun H4 due s4 hdue => ?_⟩
    have s34 := s3.trans s4
    refine ⟨_, rfl, _, rfl, v, d, v2, d2, rfl, hd.stay s34, hd2.stay s34, s34.tabG tg, fun _ H5 r s5 hr5 => ?_, fun ne => absurd z ne⟩
    refine ⟨_, rfl, _, _, hr5, hdue.stay s5, u1, u1, Nat.le_trans u2 (by decide), Nat.le_trans u2 (by decide), _, rfl, ?_⟩
    rw [u3]
    replace hdue := hdue.stay s5
    have s6 := s34.trans s5
    clear hr5 s34 s4 s5 s3
    refine iteF ⟨_, rfl, rfl, _, rfl, ?_⟩
    by_cases y : standingWrong d d2 = .none
    · have e2 : due = .non := by rw [y] at hdue; cases hdue; rfl
      rw [decide_eq_true e2]
      exact iteT (q _ s6)
    have nr : due ≠ .non := fun e => by
      rw [e] at hdue
      cases hh : standingWrong d d2 with
      | none => exact y hh
      | _ => rw [hh] at hdue; cases hdue
    rw [decide_eq_false nr]
    refine iteF ⟨1, 4, rfl, ⟨by decide, by decide, by decide, by decide⟩, fun D nD => ?_⟩
    refine lc_sift2 (walk_rangeAt (lo := 1) (n := 3)) nD (by show 3 < 4; decide) (by decide) (fun _ _ => trivial) (fun i x H7 hi hx s7 R r => ?_) (fun H7 s7 hD => ?_)
    · have hx2 : x = .int ((1 + i : Nat) : Int) := by
        rw [List.getElem?_map, List.getElem?_range hi] at hx
        have := Option.some.inj hx
        rw [← this]; show V.int (1 + (i : Int)) = _; push_cast; rfl
      subst hx2
      have s67 := s6.trans s7
      refine ⟨_, rfl, _, rfl, _, rfl, 1 + i, v, d, v2, d2, rfl, by omega, hd.stay s67, hd2.stay s67, s67.tabG tg, .inr ⟨by omega, y⟩, fun H8 rc s8 hrc => ?_⟩
      have ec : caughtD d d2 = .list [.str "standing", standingWrong d d2] := by
        unfold caughtD; rw [z]
      rw [ec] at hrc
      refine ⟨_, rfl, by show 2 ≤ sizeLine; decide, fun l nl => ?_⟩
      obtain ⟨t1, t2, t3⟩ := ws.told (s := "standing")
      have dl : DV (upd H8 l (.lst [.str "standing", due])) (.ref l) (.list [.str "standing", standingWrong d d2]) := .lst upd_same (.two (.str (by decide +kernel) (by decide +kernel)) ((hdue.stay (s7.trans s8)).stay ((StayT.refl _).new nl))) (by show 2 ≤ 1000; decide)
      refine ⟨_, _, hrc.stay ((StayT.refl _).new nl), dl, t1, t1, t2, t2, _, rfl, ?_⟩
      rw [t3]
      exact r _ (s8.new nl)
    · refine ⟨by show 0 ≤ sizeLine; decide, fun b nb => ⟨D, b, [], rfl, rfl, by rw [upd_ne (ne_of_none hD nb)]; exact hD, upd_same, q _ ((s6.trans s7).new nb)⟩⟩
end
end WR
namespace WR
open PySem PySem.Spec PyProof.Rows L2
/-! ## [.. for x in ..] that builds data -/
theorem lc_build {J : It} {n : Nat} {G : Hp → Prop} {xs : List V} (wk : L2.Walk J n G (YAt xs)) {te : TE} {j : Nat} {σ : L2.St} {H : Hp} {D : Addr} {Qd : Hp → Prop} (full : List PyData) (hf : full.length = n) (nD : H D = none) (jl : j < σ.length) (hn : n ≤ 1000)
    (hG : ∀ H1, StayT H H1 → G H1)
    (ht : ∀ i x H1 d, i < n → xs[i]? = some x → full[i]? = some d → StayT H H1 → (∃ vs, H1 D = some (.lst vs)) → ∀ R : V → Hp → Prop, (∀ H2 y, StayT H1 H2 → DV (wl [D] H2) y d → R y H2) → te ((wipe σ [j]).set j (some x)) H1 R)
    (hd : ∀ H1 vs, StayT H H1 → H1 D = some (.lst vs) → DVs (wl [D] H1) vs full → Qd H1) :
    ∃ W : Nat → Nat → Hp → Prop, (∃ m, W 0 m (upd H D (.lst []))) ∧ ∀ i m H, W i m H → J.stop i H ∧ Qd H ∨ J.go i H ∧ ∃ Nx : Hp → Prop, (∀ H', Nx H' → ∃ m', m' < m ∧ W (i + 1) m' H') ∧
      ∀ x H', J.yld i H x H' → gName j x (wipe σ [j]) H' fun σ2 H2 => wipe σ2 [j] = wipe σ [j] ∧ tYes σ2 H2 fun b H3 => if b = true then te σ2 H3 fun y H4 => ∃ acc, H4 D = some (.lst acc) ∧ acc.length < sizeLine ∧ Nx (upd H4 D (.lst (acc ++ [y]))) else Nx H3 := by
  refine lc_it (g := gName j) (vs := [j]) wk (fun i H1 => StayT H H1 ∧ ∃ vs, H1 D = some (.lst vs) ∧ DVs (wl [D] H1) vs (full.take i)) ?h0 ?hG ?hs ?hd
  case h0 => exact ⟨(StayT.refl H).new nD, [], upd_same, .nil⟩
  case hG => exact fun i H1 _ h => hG H1 h.1
  case hs =>
    rintro i x _ H1 hi ⟨s1, vs, hD, hvs⟩ ⟨rfl, hx⟩
    have e : wipe ((wipe σ [j]).set j (some x)) [j] = wipe σ [j] := by rw [wipe_one]; show (σ.set j none).set j none = _; rw [List.set_set]; rfl
    obtain ⟨d, hd⟩ : ∃ d, full[i]? = some d := ⟨_, List.getElem?_eq_getElem (by omega)⟩
    refine ⟨e, yes_go (ht i x H1 d hi hx hd s1 ⟨vs, hD⟩ _ fun H2 y s2 dy => ?_)⟩
    have lv : vs.length = (full.take i).length := hvs.length
    rw [List.length_take] at lv
    have in1 : D ∈ [D] := List.mem_singleton.mpr rfl
    refine ⟨vs, s2.same _ _ hD (fun _ z => nomatch z), Nat.lt_of_le_of_lt (show vs.length ≤ 1000 by omega) (by decide), (s1.trans s2).upd nD, vs ++ [y], upd_same, ?_⟩
    rw [wl_upd_in in1, List.take_add_one, hd]
    exact (hvs.stay (wl_stay s2)).snoc dy
  case hd =>
    rintro H1 ⟨s1, vs, hD, hvs⟩
    rw [← hf, List.take_length] at hvs
    exact hd H1 vs s1 hD hvs
end WR
namespace WR
open PySem PySem.Spec PyProof.Rows L2
theorem walk_strAt {z : Str} : L2.Walk (Its z) z.cps.size (fun _ => True) (YAt (z.cps.toList.map fun c => V.str ⟨#[c]⟩)) := by
  have w := walk_str (z := z)
  refine ⟨w.goes, w.stops, fun i H x H' hi g y => ?_⟩
  obtain ⟨h1, c, hc, h2⟩ := w.yields i H x H' hi g y
  refine ⟨h1, ?_⟩
  rw [h2, List.getElem?_map, Array.getElem?_toList, hc]
  rfl
def homes1 : List PyData := (List.range 20).map fun k => .tuple [.str ⟨#[97 + k]⟩, .int (k : Nat)]
def tail2 : Str := Txt.slice letters (some 20) none
def homes2 : List PyData := tail2.cps.toList.map fun c => .tuple [.str ("z" ++ ⟨#[c]⟩ ++ Txt.slice "0123456" none (some 6)), .int 3]
def handName (k : Nat) : Str := ⟨#[97 + (25 - k)]⟩ ++ Txt.slice (Txt.slice "0123456789" (some ((k : Int) % 10)) none) none (some 7)
def heldAll : List PyData := (List.range 26).map fun k => .tuple [.str (handName k), .int (k : Nat)]
def isNone : PyData → Bool
  | .none => true
  | _ => false
theorem isNone_eq {d : PyData} (h : isNone d = true) : d = .none := by
  cases d <;> first | rfl | cases h
theorem town_all : townWrong (.tuple [.tuple (homes1 ++ homes2), .tuple []]) = .none := isNone_eq (by decide +kernel)
theorem standing_all : standingWrong (.tuple [.tuple (homes1 ++ homes2), .tuple []]) (.tuple heldAll) = .none := isNone_eq (by decide +kernel)
theorem sign_at : ∀ k < 26, letters.cps[k]? = some (97 + k) := by decide +kernel
theorem sign_ok : ∀ k < 26, PySem.PyData.strOk ⟨#[97 + k]⟩ = true := by decide +kernel
theorem hand_ok : ∀ k < 26, (handName k).length ≤ 1000 ∧ PySem.PyData.strOk (handName k) = true := by decide +kernel
theorem tail_ok : ∀ c ∈ tail2.cps.toList, (Str.ofString "z" ++ ⟨#[c]⟩ ++ Txt.slice (Str.ofString "0123456") none (some 6)).length ≤ 1000 ∧ PySem.PyData.strOk (Str.ofString "z" ++ ⟨#[c]⟩ ++ Txt.slice (Str.ofString "0123456") none (some 6)) = true := by decide +kernel
theorem dv_letters {H : Hp} : DV H (.str letters) (.str letters) := .str (by decide +kernel) (by decide +kernel)
section
variable {P : Program} {w : World} {K : PySem.W.Frag} {mg : Str → Option Value} {base : Heap} {f : Addr} {fd : FuncData} {T : Addr}
/-! ### _law_all_signs -/
abbrev s_law_all_signs : Stmt := topS 42
abbrev N_law_all_signs : List Str := ["small", "homes", "held", "k", "sign"]
abbrev P_law_all_signs : List Str := []
theorem sc_law_all_signs : FnScope N_law_all_signs P_law_all_signs (defScope s_law_all_signs) := ⟨rfl, rfl, rfl, by decide +kernel, rfl, by decide +kernel, by decide +kernel⟩

def sp_law_all_signs (T : Addr) : Sp := fun vs H Q _ => vs = [] ∧ TG T H ∧ ∀ H', StayT H H' → Q (.bl true) H'
theorem ok_law_all_signs {CT : Addr} (F : FnP K "_law_all_signs" s_law_all_signs f fd) (fr : Free mg) (c_town_wrong : Cal P w K mg base "town_wrong" 4 P_town_wrong (sp_town_wrong T)) (c_standing_wrong : Cal P w K mg base "standing_wrong" 6 P_standing_wrong (sp_standing_wrong T CT)) :
    FnOk P w K mg base (L2.CX P w) 7 f fd P_law_all_signs (sp_law_all_signs T) := by
  refine F.ok sc_law_all_signs (fun vs H Q E h => ?_) (fun cdv A outer s H vs Q E hr h => ⟨_, PSs.nox (pss_cons (ps_set (i := 0) sc_law_all_signs.nd rfl (Or.inr rfl) pe_str)
    (pss_cons (ps_set (i := 1) sc_law_all_signs.nd rfl (Or.inl rfl) (pe_op catA_K (pe_callTy call_tuple_of (by rfl) (fr "tuple" (by decide)) (by decide +kernel) (pa_cons (pe_lc (own := [("k", 3)]) (g := gName 3) (tt := tYes) rfl sc_law_all_signs.nd (pi_range1 rfl (fr "range" (by decide)) (pa_cons pe_int pa_nil)) (blkOk_by (N := N_law_all_signs) (sc := defScope s_law_all_signs) (by decide +kernel)) (fun _ _ _ _ _ => (pg_name (i := 3) sc_law_all_signs.nd rfl (Or.inl rfl))) (fun _ _ _ _ _ => by exact pts_nil) (fun _ _ _ _ _ => by exact (pe_tup (pa_cons (pe_ix ix_D (pv 0) (pv 3) (fun _ _ => rfl)) (pa_cons (pv 3) pa_nil))))) pa_nil)) (pe_callTy call_tuple_of (by rfl) (fr "tuple" (by decide)) (by decide +kernel) (pa_cons (pe_lc (own := [("sign", 4)]) (g := gName 4) (tt := tYes) rfl sc_law_all_signs.nd (pi_str (pe_slice C8.sl_txt (pv 0) (po_some pe_int) po_none)) (blkOk_by (N := N_law_all_signs) (sc := defScope s_law_all_signs) (by decide +kernel)) (fun _ _ _ _ _ => (pg_name (i := 4) sc_law_all_signs.nd rfl (Or.inl rfl))) (fun _ _ _ _ _ => by exact pts_nil) (fun _ _ _ _ _ => by exact (pe_tup (pa_cons (pe_op op_add_str (pe_op op_add_str pe_str (pv 4)) (pe_slice C8.sl_txt pe_str po_none (po_some pe_int))) (pa_cons pe_int pa_nil))))) pa_nil))))
    (pss_cons (ps_set (i := 2) sc_law_all_signs.nd rfl (Or.inl rfl) (pe_callTy call_tuple_of (by rfl) (fr "tuple" (by decide)) (by decide +kernel) (pa_cons (pe_lc (own := [("k", 3)]) (g := gName 3) (tt := tYes) rfl sc_law_all_signs.nd (pi_range1 rfl (fr "range" (by decide)) (pa_cons pe_int pa_nil)) (blkOk_by (N := N_law_all_signs) (sc := defScope s_law_all_signs) (by decide +kernel)) (fun _ _ _ _ _ => (pg_name (i := 3) sc_law_all_signs.nd rfl (Or.inl rfl))) (fun _ _ _ _ _ => by exact pts_nil) (fun _ _ _ _ _ => by exact (pe_tup (pa_cons (pe_op op_add_str (pe_ix ix_D (pv 0) (pe_op op_sub pe_int (pv 3)) (fun _ _ => rfl)) (pe_slice C8.sl_txt (pe_slice C8.sl_txt pe_str (po_some (pe_op op_mod (pv 3) pe_int)) po_none) po_none (po_some pe_int))) (pa_cons (pv 3) pa_nil))))) pa_nil)))
    (pss_one (ps_ret (pe_and (pe_cmpR op_isN (pe_F c_town_wrong (hr.mono (by omega)) (pa_cons (pe_tup (pa_cons (pv 1) (pa_cons (pe_tup pa_nil) pa_nil))) pa_nil)) pe_non (nomark _)) (pe_one (pe_cmpR op_isN (pe_F c_standing_wrong (hr.mono (by omega)) (pa_cons (pe_tup (pa_cons (pv 1) (pa_cons (pe_tup pa_nil) pa_nil))) (pa_cons (pv 2) pa_nil))) pe_non (nomark _))))))))), ?_⟩)
  · obtain ⟨rfl, _⟩ := h; rfl
  · obtain ⟨rfl, tg, q⟩ := h
    have lett : ∀ {H : Hp} (i : Nat), i < 26 → ∀ (R : VK) (y : V), y = .int (i : Nat) → R (.str ⟨#[97 + i]⟩) H → rItemD (.str letters) y H R := fun {H} i hi R y ey r => by
      subst ey
      refine ⟨.str letters, .str ⟨#[97 + i]⟩, i, dv_letters, rfl, by simp only [itemD, sign_at i hi, Option.map_some], fun v hv => ?_⟩
      cases dv_str hv
      exact r
    have put : ∀ {D t : Addr} {H1 : Hp} {x : Str} {i : Int}, H1 t = none → (∃ vs, H1 D = some (.lst vs)) → OkS x → DV (wl [D] (upd H1 t (.tup [.str x, .int i]))) (.ref t) (.tuple [.str x, .int i]) := fun {D t H1 x i} nt hD okx => by
      obtain ⟨vs, hD⟩ := hD
      exact dv_made nt (fun z => by rw [List.mem_singleton.mp z, hD] at nt; cases nt) (.two (.str okx.1 okx.2) (.int _)) (by show 2 ≤ 1000; decide)
    refine ⟨20, rfl, by decide, by decide, fun D nD => ?_⟩
    refine lc_build (walk_rangeAt (lo := 0) (n := 20)) homes1 (by decide +kernel) nD (by show 3 < 5; decide) (by decide) (fun _ _ => trivial) (fun i x H1 d hi hx hd s1 hD R r => ?_) (fun H1 vs s1 hD hvs => ?_)
    · have hx2 : x = .int (i : Nat) := by
        rw [List.getElem?_map, List.getElem?_range hi] at hx
        have := Option.some.inj hx
        rw [← this]; show V.int (0 + (i : Int)) = _; rw [Int.zero_add]
      have hd2 : d = .tuple [.str ⟨#[97 + i]⟩, .int (i : Nat)] := by
        unfold homes1 at hd
        rw [List.getElem?_map, List.getElem?_range hi] at hd
        exact (Option.some.inj hd).symm
      subst hx2
      subst hd2
      exact ⟨_, rfl, _, rfl, lett i (by omega) _ _ rfl ⟨_, rfl, by show 2 ≤ sizeLine; decide, fun t nt => r _ _ ((StayT.refl _).new nt) (put nt hD ⟨by show 1 ≤ 1000; decide, sign_ok i (by omega)⟩)⟩⟩
    refine ⟨D, vs, rfl, .inl ⟨SqL.of hD, fun h1 nh1 => ?_⟩⟩
    have s2 := s1.new (o := .tup vs) nh1
    have d1 : DV (upd H1 h1 (.tup vs)) (.ref h1) (.tuple homes1) := .tup upd_same (hvs.out.stay ((StayT.refl _).new nh1)) (by decide +kernel)
    generalize upd H1 h1 (.tup vs) = H2 at s2 d1
    clear hD hvs nh1 nD s1
    refine ⟨_, rfl, _, rfl, letters, rfl, by decide +kernel, _, rfl, fun D2 nD2 => ?_⟩
    refine lc_build (J := Its tail2) (walk_strAt (z := tail2)) homes2 (by decide +kernel) nD2 (by show 4 < 5; decide) (by decide +kernel) (fun _ _ => trivial) (fun i x H3 d hi hx hd s3 hD R r => ?_) (fun H3 us s3 hD hus => ?_)
    · obtain ⟨c, hc⟩ : ∃ c, tail2.cps.toList[i]? = some c := ⟨_, List.getElem?_eq_getElem (by rw [Array.length_toList]; exact hi)⟩
      have hx2 : x = .str ⟨#[c]⟩ := by
        rw [List.getElem?_map, hc] at hx
        exact (Option.some.inj hx).symm
      have hd2 : d = .tuple [.str (Str.ofString "z" ++ ⟨#[c]⟩ ++ Txt.slice (Str.ofString "0123456") none (some 6)), .int 3] := by
        unfold homes2 at hd
        rw [List.getElem?_map, hc] at hd
        exact (Option.some.inj hd).symm
      subst hx2
      subst hd2
      refine ⟨_, rfl, _, _, rfl, rfl, by show 1 + 1 ≤ sizeLine; decide, _, rfl, _, rfl, by show 7 ≤ sizeLine; decide, _, _, rfl, rfl, ?_, by show 2 ≤ sizeLine; decide, fun t nt => r _ _ ((StayT.refl _).new nt) (put nt hD (tail_ok c (List.mem_of_getElem? hc)))⟩
      rw [Str.length_append]
      have : (Txt.slice (Str.ofString "0123456") none (some 6)).length ≤ 10 := by decide +kernel
      exact Nat.le_trans (Nat.add_le_add_left this _) (by show 2 + 10 ≤ sizeLine; decide)
    refine ⟨D2, us, rfl, .inl ⟨SqL.of hD, fun h2 nh2 => ?_⟩⟩
    have s4 := s2.trans (s3.new (o := .tup us) nh2)
    have d2 : DV (upd H3 h2 (.tup us)) (.ref h2) (.tuple homes2) := .tup upd_same (hus.out.stay ((StayT.refl _).new nh2)) (by decide +kernel)
    replace d1 := d1.stay (s3.new (o := .tup us) nh2)
    generalize upd H3 h2 (.tup us) = H4 at s4 d1 d2
    clear hD hus nh2 nD2 s3 s2
    obtain ⟨w1, x1, ew1, e1, q1, _⟩ := dv_tup d1
    cases ew1
    obtain ⟨w2, x2, ew2, e2, q2, _⟩ := dv_tup d2
    cases ew2
    have l1 := q1.length
    have l2 := q2.length
    have k1 : homes1.length = 20 := by decide +kernel
    have k2 : homes2.length = 6 := by decide +kernel
    refine ⟨_, _, x1, x2, rfl, rfl, SqT.of e1, SqT.of e2, Nat.le_trans (show x1.length + x2.length ≤ 1000 by omega) (by decide), fun z => ?_, fun _ z => ?_, fun _ _ hm nhm => ?_⟩
    · rw [z] at l1; simp at l1; omega
    · rw [z] at l2; simp at l2; omega
    have s5 := s4.new (o := .tup (x1 ++ x2)) nhm
    have dh : DV (upd H4 hm (.tup (x1 ++ x2))) (.ref hm) (.tuple (homes1 ++ homes2)) := .tup upd_same ((q1.append q2).stay ((StayT.refl _).new nhm)) (by rw [List.length_append]; omega)
    generalize upd H4 hm (.tup (x1 ++ x2)) = H5 at s5 dh
    clear e1 e2 q1 q2 d1 d2 nhm s4
    refine ⟨26, rfl, by decide, by decide, fun D3 nD3 => ?_⟩
    refine lc_build (walk_rangeAt (lo := 0) (n := 26)) heldAll (by decide +kernel) nD3 (by show 3 < 5; decide) (by decide) (fun _ _ => trivial) (fun i x H6 d hi hx hd s6 hD R r => ?_) (fun H6 us s6 hD hus => ?_)
    · have hx2 : x = .int (i : Nat) := by
        rw [List.getElem?_map, List.getElem?_range hi] at hx
        have := Option.some.inj hx
        rw [← this]; show V.int (0 + (i : Int)) = _; rw [Int.zero_add]
      have hd2 : d = .tuple [.str (handName i), .int (i : Nat)] := by
        unfold heldAll at hd
        rw [List.getElem?_map, List.getElem?_range hi] at hd
        exact (Option.some.inj hd).symm
      subst hx2
      subst hd2
      refine ⟨_, rfl, _, rfl, _, _, rfl, rfl, lett (25 - i) (by omega) _ _ (by show V.int (25 - (i : Int)) = _; congr 1; omega) ?_⟩
      refine ⟨_, rfl, _, _, rfl, rfl, (show (0 : Int) < 10 by decide), _, rfl, _, rfl, by decide +kernel, _, rfl, _, rfl, ?_, _, _, rfl, rfl, ?_, _, rfl, by show 2 ≤ sizeLine; decide, fun t nt => r _ _ ((StayT.refl _).new nt) (put nt hD (hand_ok i hi))⟩
      · have : ∀ k < 26, (Txt.slice (Str.ofString "0123456789") (some ((k : Nat) % 10 : Int)) none).length ≤ 100 := by decide +kernel
        exact Nat.le_trans (this i hi) (by decide)
      · have : ∀ k < 26, (Txt.slice (Txt.slice (Str.ofString "0123456789") (some ((k : Nat) % 10 : Int)) none) none (some 7)).length ≤ 100 := by decide +kernel
        exact Nat.le_trans (Nat.add_le_add_left (this i hi) _) (by show 1 + 100 ≤ sizeLine; decide)
    refine ⟨D3, us, rfl, .inl ⟨SqL.of hD, fun hl nhl => ?_⟩⟩
    have s7 := s5.trans (s6.new (o := .tup us) nhl)
    have dl : DV (upd H6 hl (.tup us)) (.ref hl) (.tuple heldAll) := .tup upd_same (hus.out.stay ((StayT.refl _).new nhl)) (by decide +kernel)
    replace dh := dh.stay (s6.new (o := .tup us) nhl)
    generalize upd H6 hl (.tup us) = H7 at s7 dl dh
    clear hD hus nhl nD3 s6 s5
    refine ⟨_, rfl, by show 0 ≤ sizeLine; decide, fun u nu => ⟨by show 2 ≤ sizeLine; decide, fun t nt => ?_⟩⟩
    have s8 := s7.new (o := .tup []) nu
    have du : DV (upd H7 u (.tup [])) (.ref u) (.tuple []) := .tup upd_same .nil (by show 0 ≤ 1000; decide)
    have dh8 := dh.stay ((StayT.refl H7).new (o := .tup []) nu)
    have dt : DV (upd (upd H7 u (.tup [])) t (.tup [.ref hm, .ref u])) (.ref t) (.tuple [.tuple (homes1 ++ homes2), .tuple []]) := .tup upd_same (.two (dh8.stay ((StayT.refl _).new nt)) (du.stay ((StayT.refl _).new nt))) (by show 2 ≤ 1000; decide)
    have s9 := s8.new (o := .tup [.ref hm, .ref u]) nt
    refine ⟨_, _, rfl, dt, s9.tabG tg, fun H8 r s10 hr => ?_⟩
    rw [town_all] at hr
    cases hr
    have s11 := s9.trans s10
    refine ⟨rfl, _, rfl, iteT ?_⟩
    replace dl := (((dl.stay ((StayT.refl H7).new (o := .tup []) nu)).stay ((StayT.refl _).new nt)).stay s10)
    replace dh8 := ((dh8.stay ((StayT.refl _).new nt)).stay s10)
    clear dt du nu nt s8 s9 s10
    refine ⟨_, rfl, by show 0 ≤ sizeLine; decide, fun u nu => ⟨by show 2 ≤ sizeLine; decide, fun t nt => ⟨_, rfl, ?_⟩⟩⟩
    have du : DV (upd H8 u (.tup [])) (.ref u) (.tuple []) := .tup upd_same .nil (by show 0 ≤ 1000; decide)
    have dh9 := dh8.stay ((StayT.refl H8).new (o := .tup []) nu)
    have dl9 := dl.stay ((StayT.refl H8).new (o := .tup []) nu)
    have dt : DV (upd (upd H8 u (.tup [])) t (.tup [.ref hm, .ref u])) (.ref t) (.tuple [.tuple (homes1 ++ homes2), .tuple []]) := .tup upd_same (.two (dh9.stay ((StayT.refl _).new nt)) (du.stay ((StayT.refl _).new nt))) (by show 2 ≤ 1000; decide)
    have s12 := (s11.new (o := .tup []) nu).new (o := .tup [.ref hm, .ref u]) nt
    refine ⟨_, _, _, _, rfl, dt, dl9.stay ((StayT.refl _).new nt), s12.tabG tg, fun _ H9 r s13 hr => ?_, fun ne => absurd town_all ne⟩
    rw [standing_all] at hr
    cases hr
    exact ⟨rfl, q _ (s12.trans s13)⟩
end
end WR
namespace WR
open PySem PySem.Spec PyProof.Rows L2
/-! ## A def called at one place, told what is around it there -/
theorem fn_at {CX : CXT} {P : Program} {w : World} {K : PySem.W.Frag} {mg : Str → Option Value} {base : Heap} {k : Nat} {f : Addr} {name qual : Str} {params : Arguments} {body : List Stmt} {scope : Scope} {dV kV doc pm cdv ct oc : Value} {an od : Option Addr} {osl : Array (Option Value)} {N ps : List Str}
    (lk : List.lookup f K = some { cls := oc, dict := od, data := .func (PySem.W.fnOf name qual params body scope dV kV doc pm an cdv ct), slots := osl }) (hcd : PySem.W.codeIn K cdv qual = true) (S : FnScope N ps scope)
    {A : Around} {outer : List Env} {s : Shared} {H : Hp} {args : Args} {us : List Value} {vs : List V} {Q : VK} {E : XK} (hr : Room (k + 1) A) (e0 : Env0 P w K mg base A outer s H) (hb : BindsTo s (PySem.W.fnOf name qual params body scope dV kV doc pm an cdv ct) args (ps.zip us)) (r : Vals vs us) (hl : vs.length = ps.length)
    (hbody : Room k (A.deeper (PyProof.Rows.envOfC qual scope s.heap.objs.size f cdv)) → ∃ t, PSs (cxOf CX P w K mg base N qual scope f cdv A outer s H E) body t ∧ t { nx := fun _ H' => Q .non H', rt := Q } (L2.start N vs) H) :
    codeAny (model P w) A (.call (.ref f) args) (CR CX outer P w H s Q E) s := by
  have KX : K.In s.heap := e0.mod.kin.keeps fun b o e => (e0.bs b o e).1
  have lim : s.heap.NoLimit := e0.mod.nolimit.keeps fun b o e => (e0.bs b o e).1
  have hkind : ∀ y ∈ ps.zip us, _ := fun y hy => Or.casesOn (motive := fun _ => scope.names.lookup y.1 = some .local ∨ scope.names.lookup y.1 = some .cell ∧ ((cellsFrom (s.heap.objs.size + 1) scope.names []).lookup y.1).isSome = true) (S.par y.1 (List.of_mem_zip (show (y.1, y.2) ∈ ps.zip us from hy)).1) (fun q => .inl q) fun q => .inr ⟨q, PySem.W.cellsFrom_some scope.names (s.heap.objs.size + 1) [] (.inl q)⟩
  refine codeAny_call_function hr.depth (KX f _ lk) rfl S.co S.gen rfl (PySem.W.codeRec_of KX hcd) ?_
  refine hb (model P w) A.in1 _ _ ?_
  refine wpAny_newFunctionEnv_cells S.kind hkind fun env he s1 x => ?_
  subst he
  refine ⟨lim.keeps x.toInCall.keep, codeAny_func ?_⟩
  obtain ⟨t, ht, hq⟩ := hbody (hr.deeper _)
  have I : L2.Inv (cxOf CX P w K mg base N qual scope f cdv A outer s H E) [] (L2.start N vs) H s1 := inv_start S hr.hd e0 hl r x
  refine wpAny_mono (ht.run [] s1 (L2.start N vs) H _ I hq) (fun fl s' hs => ?_) (fun e s' hs => hs)
  cases fl with
  | next =>
    obtain ⟨σ', H', J, q⟩ := hs
    exact ⟨.non, H', J.os, J.bare, J.base, J.hok, rfl, q⟩
  | brk =>
    obtain ⟨_, _, _, q⟩ := hs
    exact q.elim
  | cont =>
    obtain ⟨_, _, _, q⟩ := hs
    exact q.elim
  | ret u =>
    obtain ⟨v, σ', H', J, rv, q⟩ := hs
    exact ⟨v, H', J.os, J.bare, J.base, J.hok, rv, q⟩
/-- the end of a law that is walked at its caller's place; c a code object with a table T -/
theorem law_callAt {P : Program} {w : World} {K : PySem.W.Frag} {mg mb : Str → Option Value} {fa a c T : Addr} {CX : CXT} {s₁ : Shared} {vs : List Value} {ns : List Int}
    (KX : K.In s₁.heap) (hns : s₁.heap.Ns mainGlobals mg) (hb : s₁.heap.Ns builtinsNs mb) (hbb : ∀ x : Str, x ≠ Str.ofString "__name__" → mb x = bootBuiltins x) (hlim : s₁.heap.NoLimit) (hg : s₁.gens = #[])
    (hT : s₁.heap.get? T = some { cls := .none, data := .fields #[] }) (nT : List.lookup T K = none) (C : PySem.W.CodeHd s₁.heap c T)
    (hbm : ∃ bm ob, mg (Str.ofString "__builtins__") = some (.ref bm) ∧ bm ≠ builtinsNs ∧ s₁.heap.get? bm = some ob ∧ ob.cls = .type "module" ∧ ob.dict = some builtinsNs ∧ ob.data = .plain)
    (ha : s₁.heap.get? a = some { cls := .type "list", data := .seq vs.toArray }) (hi : PyProof.Rows.IntsAre vs ns) (hl : ns.length ≤ sizeLine)
    (F : ∀ (base : Heap) (H : Hp), K.In base → base.Ns mainGlobals mg → LamX.TabB base mg c T → Env0 P w K mg base callerA [] s₁ H → H T = some (.tbl #[]) → SqL K H a (ns.map V.int) →
      codeAny (model P w) callerA (.call (.ref fa) { pos := [.ref a] }) (CR CX [] P w H s₁ (fun v _ => v = .bl true) fun _ _ _ => False) s₁)
    (hCX : ∀ (H : Hp) (e : Value) (s' : Shared), CX [] H s₁ (fun _ _ _ => False) e s' → False) :
    codeAny (model P w) callerA (.call (.ref fa) { pos := [.ref a] }) (fun r s' => r = .ok (.ret (.bool true)) ∧ OldK s₁.heap s'.heap ∧ s'.os = s₁.os ∧ PyProof.Rows.AllBare s'.gens) s₁ := by
  have rv := vals_ints hi
  have lenV := PyProof.Rows.IntsAre.length hi
  have aT : a ≠ T := fun z => by
    rw [z, hT] at ha
    cases ha
  have core : ∀ H : Hp, H T = some (.tbl #[]) → (∀ b, H b = none ∨ b = T ∨ ∃ o xs, H b = some (.frz o (.lst xs))) → SqL K H a (ns.map V.int) → HOk P w H s₁.heap → (∀ b, H b ≠ none → b = a ∨ b = T) → (H a ≠ none → List.lookup a K = none) → codeAny (model P w) callerA (.call (.ref fa) { pos := [.ref a] }) (fun r s' => r = .ok (.ret (.bool true)) ∧ OldK s₁.heap s'.heap ∧ s'.os = s₁.os ∧ PyProof.Rows.AllBare s'.gens) s₁ := fun H hH hO hS hok hA hK => by
    have noD : ∀ {b : Addr} {o : Obj}, s₁.heap.get? b = some o → (∀ us n, o.data ≠ .seq us n) → o.data ≠ .fields #[] → H b = none := fun {b o} e n1 n2 => by
      cases q : H b with
      | none => rfl
      | some u =>
        rcases hA b (by rw [q]; simp) with z | z
        · rw [z, ha] at e; cases e
          exact absurd rfl (n1 _ _)
        · rw [z, hT] at e; cases e
          exact absurd rfl n2
    have nsK : ∀ {b : Addr} {m : Str → Option Value}, s₁.heap.Ns b m → (hidT s₁.heap H).Ns b m := fun {b m} x => by
      obtain ⟨o, es, ep, e, d, r⟩ := x
      exact ⟨o, es, ep, hidT_get e (noD e (fun us n z => by rw [d] at z; cases z) fun z => by rw [d] at z; cases z), d, r⟩
    have hKb : K.In (hidT s₁.heap H) := fun b o e => hidT_get (KX b o e) (by
      cases q : H b with
      | none => rfl
      | some u =>
        rcases hA b (by rw [q]; simp) with z | z
        · have := hK (by rw [← z, q]; simp)
          rw [z, this] at e; cases e
        · rw [z, nT] at e; cases e)
    have hM : L2.Mod K mg (hidT s₁.heap H) := ⟨hKb, nsK hns, ⟨mb, nsK hb, hbb⟩, by
      obtain ⟨mc, h1, h2⟩ := hlim
      exact ⟨mc, nsK h1, h2⟩⟩
    have TB : LamX.TabB (hidT s₁.heap H) mg c T := by
      refine ⟨?_, ?_, fun z => ?_⟩
      · obtain ⟨o, us, file, tf, flags, tg, inF, text, tt, e1, r1, r2, r3, rest⟩ := C
        exact ⟨o, us, file, tf, flags, tg, inF, text, tt, hidT_get e1 (noD e1 (fun us n z => by rw [r2] at z; cases z) fun z => by
          rw [r2] at z; cases z
          simp at r3), r1, r2, r3, rest⟩
      · obtain ⟨bm, ob, b1, b2, b3, b4, b5, b6⟩ := hbm
        refine ⟨bm, ob, b1, b2, fun z => ?_, fun z => ?_, hidT_get b3 (noD b3 (fun us n z => by rw [b6] at z; cases z) fun z => by rw [b6] at z; cases z), b4, b5, b6⟩
        · obtain ⟨o, es, ep, e, d, r⟩ := hns
          rw [z, e] at b3; cases b3
          rw [d] at b6; cases b6
        · rw [z, hT] at b3; cases b3
          cases b6
      · obtain ⟨o, es, ep, e, d, r⟩ := hns
        rw [z, hT] at e; cases e
        cases d
    have e0 : Env0 P w K mg (hidT s₁.heap H) callerA [] s₁ H := ⟨rfl, hM, fun b o e => of_hidT e, Nat.le_of_eq (hidT_size s₁.heap H), trivial, fun b hb => absurd (show b ∈ ([] : List Addr) from hb) (by simp), hok, PyProof.Rows.AllBare.of_eq hg⟩
    refine codeAny_mono (F _ H hKb (nsK hns) TB e0 hH hS) fun r s' h => ?_
    cases r with
    | error e => exact (hCX H e s' h).elim
    | ok fl =>
      cases fl with
      | next => exact h.elim
      | brk => exact h.elim
      | cont => exact h.elim
      | ret u =>
        obtain ⟨v, H', os, bare, un, hok', r', q⟩ := h
        cases (show v = .bl true from q)
        cases (show u = Value.bool true from r')
        have key : ∀ b o, b ≠ T → s₁.heap.get? b = some o → s'.heap.get? b = some o := fun b o nb e => by
          cases q : H b with
          | none => exact un.keep b o e q (fun z => absurd (show b ∈ ([] : List Addr) from z) (by simp)) (by simp)
          | some u =>
            rcases hO b with z | z | ⟨ob, xs, z⟩
            · rw [z] at q; cases q
            · exact absurd z nb
            · have z2 := un.frzs b ob (.lst xs) z
              have e1 := (hok b (.frz ob (.lst xs)) z).1
              have e2 := (hok' b (.frz ob (.lst xs)) z2).1
              rw [e] at e1; cases e1
              exact e2
        obtain ⟨more, z⟩ := un.tbls T #[] hH
        have hm : s'.heap.get? T = some { cls := .none, data := .fields (#[] ++ more) } := hok' T _ z
        refine ⟨rfl, ⟨fun b o e => ?_, fun b o e => ?_⟩, os, bare⟩
        · by_cases hbT : b = T
          · subst hbT
            rw [hT] at e; cases e
            exact .inr (.inl ⟨Heap.TableAt.isCodeTable (PySem.W.CodeHd.tab C hT), rfl, #[], more, rfl, hm⟩)
          · exact .inl (key b o hbT e)
        · by_cases hbT : b = T
          · subst hbT; exact ⟨_, hm⟩
          · exact ⟨o, key b o hbT e⟩
  cases hk : List.lookup a K with
  | none =>
    refine core (fun b => if b = a then some (.frz { cls := .type "list", data := .seq vs.toArray } (.lst (ns.map V.int))) else if b = T then some (.tbl #[]) else none) ?_ (fun b => ?_) (.inl (.inr ⟨_, if_pos rfl⟩)) (fun b u z => ?_) (fun b z => ?_) (fun _ => hk)
    · show (if T = a then _ else if T = T then _ else _) = _
      rw [if_neg aT.symm, if_pos rfl]
    · by_cases h1 : b = a
      · exact .inr (.inr ⟨_, _, if_pos h1⟩)
      · by_cases h2 : b = T
        · exact .inr (.inl h2)
        · refine .inl ?_
          show (if b = a then _ else if b = T then _ else _) = _
          rw [if_neg h1, if_neg h2]
    · by_cases h1 : b = a
      · subst h1
        have e := (if_pos rfl).symm.trans z
        cases e
        exact ⟨ha, by rw [List.length_map]; exact hl, vs, 0, rv, ha⟩
      · by_cases h2 : b = T
        · subst h2
          have e : some (HO.tbl #[]) = some u := by
            have z1 := z
            simp only [if_neg h1] at z1
            simpa using z1
          cases e
          exact hT
        · simp only [if_neg h1, if_neg h2] at z
          cases z
    · by_cases h1 : b = a
      · exact .inl h1
      · by_cases h2 : b = T
        · exact .inr h2
        · simp [h1, h2] at z
  | some o =>
    have e := KX a o hk
    rw [ha] at e; cases e
    refine core (fun b => if b = T then some (.tbl #[]) else none) (if_pos rfl) (fun b => ?_) (.inr ⟨_, vs.toArray, 0, hk, rfl, rfl, rfl, ?_, ?_⟩) (fun b u z => ?_) (fun b z => ?_) (fun z => absurd (if_neg aT) z)
    · by_cases h2 : b = T
      · exact .inr (.inl h2)
      · exact .inl (if_neg h2)
    · rw [List.size_toArray, lenV]; exact hl
    · exact rv
    · by_cases h2 : b = T
      · subst h2
        have e := (if_pos rfl).symm.trans z
        cases e
        exact hT
      · simp only [if_neg h2] at z
        cases z
    · by_cases h2 : b = T
      · exact .inr h2
      · simp [h2] at z
end WR
namespace WR
open PySem PySem.Spec PyProof.Rows L2
/-! ## repr of a list or tuple -/
def rRepr : List V → Hp → VK → Prop := fun xs H Q => ∃ (a : Addr) (d : PyData), xs = [.ref a] ∧ DV H (.ref a) d ∧ d.hasDict = false ∧ d.showable = true ∧ d.depth ≤ 60 ∧ d.shown.length ≤ sizeLine ∧ Q (.str d.shown) H
theorem call_repr {X : Cx} (hg : X.A.guards = some []) (hu : X.A.units + 64 < cLine) : CallR X (.builtin "repr") rRepr := by
  intro pins s σ H xs us Q I r h
  obtain ⟨a, d, rfl, hd, nd, sh, dp, sz, q⟩ := h
  obtain ⟨u, rfl, rx⟩ := vals1 r
  cases (show u = Value.ref a from rx)
  obtain ⟨as, rd⟩ := Dp.reads I d _ _ (hd.dp (K := X.K) nd) (show RelV (.ref a) (.ref a) from rfl)
  exact repr_of_reads' rd sh (PyData.noDict_hsm nd) hg (by omega) (fun _ _ e => e) (fun h' t tk k => ⟨.str d.shown, H, I.kept (t' := tk) k, ⟨t, rfl⟩, q⟩) sz
end WR
namespace WR
open PySem PySem.Spec PyProof.Rows L2
theorem stay_over {H H1 H2 : Hp} {p : Addr} (s : StayT H H1) (n : H p = none) (t : StayT (wl [p] H1) (wl [p] H2)) : StayT H H2 := by
  have np : ∀ b o, H b = some o → b ∉ [p] := fun b o e z => by
    rw [List.mem_singleton.mp z, n] at e; cases e
  refine ⟨fun b o e h => ?_, fun b ps e => ?_⟩
  · have e1 := s.same b o e h
    exact (wl_some (t.same b o (by rw [wl_out (np b o e)]; exact e1) h)).2
  · obtain ⟨p1, e1, t1⟩ := s.tab b ps e
    obtain ⟨p2, e2, t2⟩ := t.tab b p1 (by rw [wl_out (np b _ e)]; exact e1)
    exact ⟨p2, (wl_some e2).2, fun z => t2 (t1 z)⟩
theorem Script.stay {K : PySem.W.Frag} {H H' : Hp} {v : V} (h : Script K H v) (s : StayT H H') : Script K H' v := by
  obtain ⟨a, ns, rfl, (h | ⟨o, h⟩) | h⟩ := h
  · exact ⟨a, ns, rfl, .inl (.inl (s.same _ _ h fun _ z => nomatch z))⟩
  · exact ⟨a, ns, rfl, .inl (.inr ⟨o, s.same _ _ h fun _ z => nomatch z⟩)⟩
  · exact ⟨a, ns, rfl, .inr h⟩
theorem Purse.stay {H H' : Hp} {p : Addr} {b : Nat} (h : Purse H p b) (s : StayT H H') : Purse H' p b := by
  obtain ⟨n, c, k, e, h1, h2⟩ := h
  exact ⟨n, c, k, s.same _ _ e (fun _ z => nomatch z), h1, h2⟩
theorem two_plain {t s : PyData} (ht : Pl 3 4000 t) (hs : Pl 3 4000 s) : (PyData.list [t, s]).hasDict = false ∧ (PyData.list [t, s]).showable = true ∧ (PyData.list [t, s]).depth ≤ 60 ∧ (PyData.list [t, s]).shown.length ≤ sizeLine := by
  refine ⟨?_, ?_, ?_, ?_⟩
  · simp only [PyData.hasDict, PyData.hasDictAll, ht.hd, hs.hd, Bool.or_self]
  · simp only [PyData.showable, PyData.showableAll, ht.sh, hs.sh, Bool.and_self]
  · have h1 := ht.dp
    have h2 := hs.dp
    simp only [PyData.depth, PyData.depthAll]; omega
  · have h1 := ht.le
    have h2 := hs.le
    simp only [PyData.shown, PyData.shownAll, listText, textFrom]
    have e1 : (Str.ofString "[").length = 1 := by decide +kernel
    have e2 : (Str.ofString (if 0 > 0 then ", " else "")).length = 0 := by decide +kernel
    have e3 : (Str.ofString (if 0 + 1 > 0 then ", " else "")).length = 2 := by decide +kernel
    have e4 : (Str.ofString "]").length = 1 := by decide +kernel
    rw [Str.length_append, Str.length_append, Str.length_append, Str.length_append, Str.length_append, e1, e2, e3, e4]
    exact Nat.le_trans (show _ ≤ 9000 by omega) (by decide)
section
variable {P : Program} {w : World} {K : PySem.W.Frag} {mg : Str → Option Value} {base : Heap} {f : Addr} {fd : FuncData} {T : Addr}
/-! ### law -/
abbrev s_law : Stmt := topS 43
abbrev N_law : List Str := ["script", "cell", "purse", "town", "standing", "turn", "stayed", "bent"]
abbrev P_law : List Str := ["script"]
theorem sc_law : FnScope N_law P_law (defScope s_law) := ⟨rfl, rfl, rfl, by decide +kernel, rfl, by decide +kernel, by decide +kernel⟩

theorem law_runs {s : Shared} {H : Hp} {v : V} {u : Value} {args : Args} {E : XK} (F : FnP K "law" s_law f fd) (fr : Free mg) (hr0 : Room 30 callerA) (e0 : Env0 P w K mg base callerA [] s H) (hb : BindsTo s fd args (P_law.zip [u])) (ru : Vals [v] [u]) (hscr : Script K H v) (tg : TG T H)
    (c_law_purse : Cal P w K mg base "_law_purse" 2 P_law_purse (sp_law_purse K)) (c_law_town : Cal P w K mg base "_law_town" 4 P_law_town sp_law_town) (c_law_standing : Cal P w K mg base "_law_standing" 4 P_law_standing sp_law_standing)
    (c_law_right : Cal P w K mg base "_law_right" 10 P_law_right (sp_law_right T)) (c_law_bent : Cal P w K mg base "_law_bent" 8 P_law_bent (sp_law_bent 4)) (c_law_all_signs : Cal P w K mg base "_law_all_signs" 7 P_law_all_signs (sp_law_all_signs T)) :
    codeAny (model P w) callerA (.call (.ref f) args) (CR (L2.CX P w) [] P w H s (fun v _ => v = .bl true) E) s := by
  obtain ⟨oc, od, dV, kV, doc, pm, an, cdv, ct, osl, rfl, lk, hcd, _, _⟩ := F.ex
  refine fn_at (k := 29) lk hcd sc_law hr0 e0 hb ru rfl fun hr => ⟨_, PSs.nox (pss_cons (ps_for PassesOwn.never rfl (pi_range1 rfl (fr "range" (by decide)) (pa_cons pe_int pa_nil)) (pg_name (i := 1) sc_law.nd rfl (Or.inl rfl)) (pss_cons (ps_set (i := 2) sc_law.nd rfl (Or.inl rfl) (pe_F c_law_purse (hr.mono (by omega)) (pa_cons (pv 0) (pa_cons (pv 1) pa_nil))))
    (pss_cons (ps_set (i := 3) sc_law.nd rfl (Or.inl rfl) (pe_F c_law_town (hr.mono (by omega)) (pa_cons (pv 2) (pa_cons pe_int pa_nil))))
    (pss_cons (ps_set (i := 4) sc_law.nd rfl (Or.inl rfl) (pe_F c_law_standing (hr.mono (by omega)) (pa_cons (pv 2) (pa_cons (pv 3) pa_nil))))
    (pss_cons (ps_if (pt_not (pt_val (pe_F c_law_right (hr.mono (by omega)) (pa_cons (pv 3) (pa_cons (pv 4) pa_nil))))) (pss_one (ps_ret pe_bl)) pss_nil)
    (pss_one (ps_for PassesOwn.never rfl (pi_range1 rfl (fr "range" (by decide)) (pa_cons pe_int pa_nil)) (pg_name (i := 5) sc_law.nd rfl (Or.inl rfl)) (pss_cons (ps_set (i := 6) sc_law.nd rfl (Or.inl rfl) (pe_callB (call_repr rfl hr.units) (by rfl) (fr "repr" (by decide)) (by decide +kernel) (pa_cons (pe_lst (pa_cons (pv 3) (pa_cons (pv 4) pa_nil))) pa_nil)))
    (pss_cons (ps_set (i := 7) sc_law.nd rfl (Or.inl rfl) (pe_F c_law_bent (hr.mono (by omega)) (pa_cons (pv 2) (pa_cons (pv 3) pa_nil))))
    (pss_cons (ps_if (PW.pt (pw_or (pt_not (pt_val (pe_F c_law_right (hr.mono (by omega)) (pa_cons (pv 7) (pa_cons (pv 4) pa_nil))))) (pw_or1 (pt_not (pt_val (pe_F c_law_right (hr.mono (by omega)) (pa_cons (pv 3) (pa_cons (pe_F c_law_bent (hr.mono (by omega)) (pa_cons (pv 2) (pa_cons (pv 4) pa_nil))) pa_nil)))))))) (pss_one (ps_ret pe_bl)) pss_nil)
    (pss_one (ps_if (pt_cmpR op_ne (pe_callB (call_repr rfl hr.units) (by rfl) (fr "repr" (by decide)) (by decide +kernel) (pa_cons (pe_lst (pa_cons (pv 3) (pa_cons (pv 4) pa_nil))) pa_nil)) (pv 6) (nomark _)) (pss_one (ps_ret pe_bl)) pss_nil))))))))))))
    (pss_one (ps_ret (pe_F0 c_law_all_signs (hr.mono (by omega)))))), ?_⟩
  refine ⟨4, rfl, by decide, by decide, ?_⟩
  refine for_it walk_range (fun i σ H1 => ∃ o1 o2 o3 o4 o5 o6 o7 : Option V, σ = [some v, o1, o2, o3, o4, o5, o6, o7] ∧ StayT H H1) ?h0 ?hG ?hs ?hd
  case h0 => exact ⟨none, none, none, none, none, none, none, rfl, StayT.refl H⟩
  case hG => intros; trivial
  case hd =>
    rintro σ H1 ⟨o1, o2, o3, o4, o5, o6, o7, rfl, s1⟩
    exact ⟨rfl, s1.tabG tg, fun H' _ => rfl⟩
  case hs =>
    rintro i x σ _ H1 hi ⟨o1, o2, o3, o4, o5, o6, o7, rfl, s1⟩ ⟨rfl, rfl⟩
    have hi4 : i < 4 := hi
    refine ⟨_, rfl, _, rfl, v, i, ?_, by omega, hscr.stay s1, fun p H2 np s2 hp => ?_⟩
    · show [v, V.int (0 + (i : Int))] = [v, .int (i : Nat)]
      rw [Int.zero_add]
    have np0 : H p = none := s1.none np
    have s12 := s1.trans s2
    refine ⟨_, rfl, p, 8, 3000, rfl, by decide, by decide, hp, by decide, fun H3 vt t t3 hp3 dt tt _ => ?_⟩
    have s3 := stay_over s12 np0 t3
    refine ⟨_, rfl, _, rfl, p, 3100, vt, t, rfl, hp3, by decide, dt, tt, fun H4 vs d t4 hp4 ds ss _ => ?_⟩
    have s4 := stay_over s3 np0 t4
    replace dt := dt.stay t4
    refine ⟨_, rfl, _, rfl, vt, t, vs, d, rfl, dt.out, ds.out, s4.tabG tg, fun H5 s5 => ⟨_, rfl, iteF ?_⟩⟩
    have pl := two_plain (pl_town tt) (pl_stand ss)
    refine ⟨12, rfl, by decide, by decide, ?_⟩
    refine for_it walk_range (fun k σ G => ∃ o5 o6 o7 : Option V, σ = [some v, some (.int (0 + (i : Int))), some (.ref p), some vt, some vs, o5, o6, o7] ∧ StayT H G ∧ Purse G p (3200 + 80 * k) ∧ DV (wl [p] G) vt t ∧ DV (wl [p] G) vs d) ?g0 ?gG ?gs ?gd
    case g0 => exact ⟨o5, o6, o7, rfl, s4.trans s5, hp4.stay s5, dt.stay (wl_stay s5), ds.stay (wl_stay s5)⟩
    case gG => intros; trivial
    case gd =>
      rintro σ G ⟨q5, q6, q7, rfl, sG, _⟩
      exact ⟨_, _, _, _, _, _, _, rfl, sG⟩
    case gs =>
      clear dt ds hp4 s5 s4 t4 hp3 s3 t3 hp s12 s2 np s1
      rintro k x σ _ G hk ⟨q5, q6, q7, rfl, sG, hpG, dt, ds⟩ ⟨rfl, rfl⟩
      have hk12 : k < 12 := hk
      refine ⟨_, rfl, _, rfl, by show 2 ≤ sizeLine; decide, fun l nl => ?_⟩
      obtain ⟨z1, z2, z3, z4⟩ := pl
      have mk : ∀ {G : Hp} {l : Addr}, G l = none → DV (wl [p] G) vt t → DV (wl [p] G) vs d → DV (upd G l (.lst [vt, vs])) (.ref l) (.list [t, d]) := fun n a b => .lst upd_same (.two (a.out.stay ((StayT.refl _).new n)) (b.out.stay ((StayT.refl _).new n))) (by show 2 ≤ 1000; decide)
      refine ⟨l, _, rfl, mk nl dt ds, z1, z2, z3, z4, ?_⟩
      have l_p : l ≠ p := hpG.ne nl
      have t1 := wl_alloc (ms := [p]) (o := .lst [vt, vs]) nl
      have sG1 := sG.new (o := .lst [vt, vs]) nl
      replace hpG := hpG.upd (o := .lst [vt, vs]) l_p
      replace dt := dt.stay t1
      replace ds := ds.stay t1
      generalize upd G l (.lst [vt, vs]) = G1 at sG1 hpG dt ds
      clear t1 nl sG
      refine ⟨_, rfl, _, rfl, p, _, vt, t, rfl, hpG, by show 3200 + 80 * k + 10 * 3 ≤ 890000; omega, dt, fit_town tt, fun G2 vb db t2 hp2 dvb => ?_⟩
      have sG2 := stay_over sG1 np0 t2
      replace dt := dt.stay t2
      replace ds := ds.stay t2
      refine ⟨_, rfl, _, rfl, vb, db, vs, d, rfl, dvb.out, ds.out, sG2.tabG tg, fun G3 s3 => ⟨_, rfl, iteF ?_⟩⟩
      have sG3 := sG2.trans s3
      have hp3 := hp2.stay s3
      replace dt := dt.stay (wl_stay s3)
      replace ds := ds.stay (wl_stay s3)
      refine ⟨_, rfl, _, rfl, _, rfl, p, _, vs, d, rfl, hp3, by show 3200 + 80 * k + 10 * (3 + 1) + 10 * 3 ≤ 890000; omega, ds, fit_stand ss, fun G4 vc dc t4 hp4 dvc => ?_⟩
      have sG4 := stay_over sG3 np0 t4
      replace dt := dt.stay t4
      replace ds := ds.stay t4
      refine ⟨vt, t, vc, dc, rfl, dt.out, dvc.out, sG4.tabG tg, fun G5 s5 => ⟨_, rfl, iteF ?_⟩⟩
      have sG5 := sG4.trans s5
      have hp5 := hp4.stay s5
      replace dt := dt.stay (wl_stay s5)
      replace ds := ds.stay (wl_stay s5)
      refine ⟨_, rfl, _, rfl, by show 2 ≤ sizeLine; decide, fun m nm => ⟨m, _, rfl, mk nm dt ds, z1, z2, z3, z4, _, rfl, rfl, _, rfl, ?_⟩⟩
      have m_p : m ≠ p := hp5.ne nm
      have t6 := wl_alloc (ms := [p]) (o := .lst [vt, vs]) nm
      rw [decide_eq_true rfl]
      exact iteF ⟨_, _, _, rfl, sG5.new nm, (hp5.upd m_p).mono (by show 3200 + 80 * k + 10 * (3 + 1) + 10 * (3 + 1) ≤ 3200 + 80 * (k + 1); omega), dt.stay t6, ds.stay t6⟩
end
end WR
namespace WR
open PySem PySem.Spec PyProof.Rows L2
abbrev i_NoTown : Stmt := inClass (topS 2) 0
abbrev i_NoStanding : Stmt := inClass (topS 3) 0
theorem sc_NoTown : FnScope ["self", "wrong"] ["self", "wrong"] (defScope i_NoTown) := ⟨rfl, rfl, rfl, by decide +kernel, rfl, by decide +kernel, by decide +kernel⟩
theorem sc_NoStanding : FnScope ["self", "wrong"] ["self", "wrong"] (defScope i_NoStanding) := ⟨rfl, rfl, rfl, by decide +kernel, rfl, by decide +kernel, by decide +kernel⟩
/-! ### what the head is asked -/
def hfa : List He.Fa := [.glo "is_whole", .glo "is_name", .glo "is_pair", .glo "is_text_pair", .glo "is_entry", .glo "bad_home", .glo "bad_road", .glo "town_wrong", .glo "check_town", .glo "standing_wrong", .glo "check_standing", .glo "wealths", .glo "stands_of", .glo "may", .glo "_law_at", .glo "_law_mixed", .glo "_law_purse", .glo "_law_draw", .glo "_law_words", .glo "_law_town", .glo "_law_standing", .glo "_law_is_name", .glo "_law_is_whole", .glo "_law_town_due", .glo "_law_standing_due", .glo "_law_odd", .glo "_law_bent", .glo "_law_caught", .glo "_law_right", .glo "_law_all_signs", .glo "law", .glo "NoTown", .glo "NoStanding", .glo "TownError", .str "LETTERS" letters, .str "SIGNS" signs, .free "isinstance", .free "int", .free "bool", .free "str", .free "tuple", .free "list", .free "dict", .free "len", .free "range", .free "enumerate", .free "zip", .free "max", .free "min", .free "sorted", .free "all", .free "any", .free "abs", .free "repr", .free "sum", .free "set"]
def hfn : List He.DefD := [⟨("is_whole", none), "is_whole", "is_whole", defArgs s_is_whole, defBody s_is_whole, defScope s_is_whole, [], []⟩, ⟨("is_name", none), "is_name", "is_name", defArgs s_is_name, defBody s_is_name, defScope s_is_name, [], []⟩, ⟨("is_pair", none), "is_pair", "is_pair", defArgs s_is_pair, defBody s_is_pair, defScope s_is_pair, [], []⟩, ⟨("is_text_pair", none), "is_text_pair", "is_text_pair", defArgs s_is_text_pair, defBody s_is_text_pair, defScope s_is_text_pair, [], []⟩, ⟨("is_entry", none), "is_entry", "is_entry", defArgs s_is_entry, defBody s_is_entry, defScope s_is_entry, [], []⟩, ⟨("bad_home", none), "bad_home", "bad_home", defArgs s_bad_home, defBody s_bad_home, defScope s_bad_home, [], []⟩, ⟨("bad_road", none), "bad_road", "bad_road", defArgs s_bad_road, defBody s_bad_road, defScope s_bad_road, [], []⟩, ⟨("town_wrong", none), "town_wrong", "town_wrong", defArgs s_town_wrong, defBody s_town_wrong, defScope s_town_wrong, [], []⟩, ⟨("check_town", none), "check_town", "check_town", defArgs s_check_town, defBody s_check_town, defScope s_check_town, [], []⟩, ⟨("standing_wrong", none), "standing_wrong", "standing_wrong", defArgs s_standing_wrong, defBody s_standing_wrong, defScope s_standing_wrong, [], []⟩, ⟨("check_standing", none), "check_standing", "check_standing", defArgs s_check_standing, defBody s_check_standing, defScope s_check_standing, [], []⟩, ⟨("wealths", none), "wealths", "wealths", defArgs s_wealths, defBody s_wealths, defScope s_wealths, [], []⟩, ⟨("stands_of", none), "stands_of", "stands_of", defArgs s_stands_of, defBody s_stands_of, defScope s_stands_of, [], []⟩, ⟨("may", none), "may", "may", defArgs s_may, defBody s_may, defScope s_may, [], []⟩, ⟨("_law_at", none), "_law_at", "_law_at", defArgs s_law_at, defBody s_law_at, defScope s_law_at, [], []⟩, ⟨("_law_mixed", none), "_law_mixed", "_law_mixed", defArgs s_law_mixed, defBody s_law_mixed, defScope s_law_mixed, [], []⟩, ⟨("_law_purse", none), "_law_purse", "_law_purse", defArgs s_law_purse, defBody s_law_purse, defScope s_law_purse, [], []⟩, ⟨("_law_draw", none), "_law_draw", "_law_draw", defArgs s_law_draw, defBody s_law_draw, defScope s_law_draw, [], []⟩, ⟨("_law_words", none), "_law_words", "_law_words", defArgs s_law_words, defBody s_law_words, defScope s_law_words, [], []⟩, ⟨("_law_town", none), "_law_town", "_law_town", defArgs s_law_town, defBody s_law_town, defScope s_law_town, [], []⟩, ⟨("_law_standing", none), "_law_standing", "_law_standing", defArgs s_law_standing, defBody s_law_standing, defScope s_law_standing, [], []⟩, ⟨("_law_is_name", none), "_law_is_name", "_law_is_name", defArgs s_law_is_name, defBody s_law_is_name, defScope s_law_is_name, [], []⟩, ⟨("_law_is_whole", none), "_law_is_whole", "_law_is_whole", defArgs s_law_is_whole, defBody s_law_is_whole, defScope s_law_is_whole, [], []⟩, ⟨("_law_town_due", none), "_law_town_due", "_law_town_due", defArgs s_law_town_due, defBody s_law_town_due, defScope s_law_town_due, [], []⟩, ⟨("_law_standing_due", none), "_law_standing_due", "_law_standing_due", defArgs s_law_standing_due, defBody s_law_standing_due, defScope s_law_standing_due, [], []⟩, ⟨("_law_odd", none), "_law_odd", "_law_odd", defArgs s_law_odd, defBody s_law_odd, defScope s_law_odd, [], []⟩, ⟨("_law_bent", none), "_law_bent", "_law_bent", defArgs s_law_bent, defBody s_law_bent, defScope s_law_bent, [], []⟩, ⟨("_law_caught", none), "_law_caught", "_law_caught", defArgs s_law_caught, defBody s_law_caught, defScope s_law_caught, [], []⟩, ⟨("_law_right", none), "_law_right", "_law_right", defArgs s_law_right, defBody s_law_right, defScope s_law_right, [], []⟩, ⟨("_law_all_signs", none), "_law_all_signs", "_law_all_signs", defArgs s_law_all_signs, defBody s_law_all_signs, defScope s_law_all_signs, [], []⟩, ⟨("law", none), "law", "law", defArgs s_law, defBody s_law, defScope s_law, [], []⟩, ⟨("NoTown", some "__init__"), "__init__", "NoTown.__init__", defArgs i_NoTown, defBody i_NoTown, defScope i_NoTown, [.non], []⟩, ⟨("NoStanding", some "__init__"), "__init__", "NoStanding.__init__", defArgs i_NoStanding, defBody i_NoStanding, defScope i_NoStanding, [.non], []⟩]
def htf : List He.Defn := [("is_name", none)]
def excB (K : PySem.W.Frag) (c : Str) : Bool := oexB K (He.ga K c) && (excIB K (He.ga K c) && (decide (PySem.W.findIn K (.ref (He.ga K c)) "wrong" = some none) && (decide (PySem.W.findIn K (.ref (He.ga K c)) "__init__" = some (some (.ref (He.ma K (He.ga K c) "__init__")))) &&
  (decide (PySem.W.typeIn K (.ref (He.ma K (He.ga K c) "__init__")) = some (.type "function")) && decide (PySem.W.exmOne K (.ref (He.ga K c)) (.ref (He.ga K "TownError")) = some true)))))
def hex (K : PySem.W.Frag) : Bool := excB K "NoTown" && (excB K "NoStanding" && (decide (PySem.W.kitOne K (.ref (He.ga K "NoTown")) (.ref (He.ga K "NoTown")) = some true) && (decide (PySem.W.kitOne K (.ref (He.ga K "NoStanding")) (.ref (He.ga K "NoTown")) = some false) && decide (PySem.W.kitOne K (.ref (He.ga K "NoStanding")) (.ref (He.ga K "NoStanding")) = some true))))
abbrev hR : PySem.W.OpenRow := PySem.W.OpenLaw.row PySem.Challenge.rw_worthrooms_k01_towns_and_standings_looke
abbrev hH : PySem.W.Hook := He.hookX 6 hfa hfn [] htf hex
def hob (s : PySem.W.SharedT) : He.AlX := He.obsX 6 hfa hfn [] htf hex (HandSHeadRun.getT s)
theorem hob_eq (s : PySem.W.SharedT) : hob s = hH.obs s.abs := He.obsX_eq (HandSHeadRun.getT_eq s)
theorem excF_of {P : Program} {w : World} {K : PySem.W.Frag} {mg : Str → Option Value} {base : Heap} {c q : Str} {i : Stmt} {fd : FuncData} {p1 p2 p3 p4 : Pos} (h : excB K c = true) (g : mg c = some (.ref (He.ga K c)))
    (F : FunD K "__init__" q (defArgs i) [.Assign [.Attribute (.Name "self" p1) "wrong" p2] (.Name "wrong" p3) p4] (defScope i) [.non] [] (He.ma K (He.ga K c) "__init__") fd) (S : FnScope ["self", "wrong"] ["self", "wrong"] (defScope i)) (hb : Binds K fd ["self", "wrong"] [])
    (v1 : (defScope i).names.lookup ("self" : Str) = some NameKind.local) (v2 : (defScope i).names.lookup ("wrong" : Str) = some NameKind.local) :
    ExcF P w K mg base c "wrong" (He.ga K c) ∧ PySem.W.exmOne K (.ref (He.ga K c)) (.ref (He.ga K "TownError")) = some true := by
  unfold excB at h
  simp only [Bool.and_eq_true, decide_eq_true_eq] at h
  obtain ⟨h1, h2, h3, h4, h5, h6⟩ := h
  have O := oexB_ok h1
  exact ⟨⟨g, O, excIB_ok h2, h3, ⟨_, fd, h4, h5, ok_init F S O h3 v1 v2 (by decide) (by decide), hb⟩⟩, h6⟩
end WR
namespace WR
open PySem PySem.Spec PyProof.Rows L2
theorem hrun (w : World) : HandSHeadRun.RunEq hR (PySem.W.view hR.prog [43]) hH hob 4000 ((["__name__", "TownError", "NoTown", "NoStanding", "LETTERS", "SIGNS", "is_whole", "is_name", "is_pair", "is_text_pair", "is_entry", "bad_home", "bad_road", "town_wrong", "check_town"] : List Str) ++ (["standing_wrong", "check_standing", "wealth_by_hand", "hands_at", "wealths", "stands_of", "road_ends", "shortage", "may", "_law_at", "_law_mixed", "_law_purse", "_law_draw", "_law_words", "_law_town"] : List Str) ++ (["_law_standing", "_law_is_name", "_law_is_whole", "_law_town_due", "_law_standing_due", "_law_odd", "_law_bent", "_law_caught", "_law_right", "_law_all_signs"] : List Str)) w := by
  intro os
  kernel_rfl
end WR
namespace WR
open PySem PySem.Spec PyProof.Rows L2
theorem law_true {P : Program} {w : World} {K : PySem.W.Frag} {h : Heap} {mg : Str → Option Value} (X : K.In h) (G : h.Ns mainGlobals mg) (c : He.SaysX hfa hfn [] htf hex w h K) {base : Heap} {s : Shared} {H : Hp} {a : Addr} {ns : List Int} (hbase : base.Ns mainGlobals mg)
    (TB : LamX.TabB base mg (He.cT K ("is_name", none)).1 (He.cT K ("is_name", none)).2) (e0 : Env0 P w K mg base callerA [] s H) (hT : H (He.cT K ("is_name", none)).2 = some (.tbl #[])) (hS : SqL K H a (ns.map V.int)) :
    codeAny (model P w) callerA (.call (.ref (He.ga K "law")) { pos := [.ref a] }) (CR (L2.CX P w) [] P w H s (fun v _ => v = .bl true) fun _ _ _ => False) s := by
  have cd := c.t.d
  have hx := c.more
  obtain ⟨fd_is_whole, F_is_whole⟩ := cd.def_ 0 (d := ⟨("is_whole", none), "is_whole", "is_whole", defArgs s_is_whole, defBody s_is_whole, defScope s_is_whole, [], []⟩) rfl
  have F_is_whole : FnP K "is_whole" s_is_whole (He.ga K "is_whole") fd_is_whole := F_is_whole
  have g_is_whole : mg "is_whole" = some (.ref (He.ga K "is_whole")) := He.glo_ok X G (cd.fact 0 (f := .glo "is_whole") rfl)
  have b_is_whole : Binds K fd_is_whole P_is_whole [] := F_is_whole.bindsN fun _ _ _ _ _ _ us hl => match us, hl with | [_], _ => rfl
  obtain ⟨fd_is_name, F_is_name⟩ := cd.def_ 1 (d := ⟨("is_name", none), "is_name", "is_name", defArgs s_is_name, defBody s_is_name, defScope s_is_name, [], []⟩) rfl
  have F_is_name : FnP K "is_name" s_is_name (He.ga K "is_name") fd_is_name := F_is_name
  have g_is_name : mg "is_name" = some (.ref (He.ga K "is_name")) := He.glo_ok X G (cd.fact 1 (f := .glo "is_name") rfl)
  have b_is_name : Binds K fd_is_name P_is_name [] := F_is_name.bindsN fun _ _ _ _ _ _ us hl => match us, hl with | [_], _ => rfl
  obtain ⟨fd_is_pair, F_is_pair⟩ := cd.def_ 2 (d := ⟨("is_pair", none), "is_pair", "is_pair", defArgs s_is_pair, defBody s_is_pair, defScope s_is_pair, [], []⟩) rfl
  have F_is_pair : FnP K "is_pair" s_is_pair (He.ga K "is_pair") fd_is_pair := F_is_pair
  have g_is_pair : mg "is_pair" = some (.ref (He.ga K "is_pair")) := He.glo_ok X G (cd.fact 2 (f := .glo "is_pair") rfl)
  have b_is_pair : Binds K fd_is_pair P_is_pair [] := F_is_pair.bindsN fun _ _ _ _ _ _ us hl => match us, hl with | [_], _ => rfl
  obtain ⟨fd_is_text_pair, F_is_text_pair⟩ := cd.def_ 3 (d := ⟨("is_text_pair", none), "is_text_pair", "is_text_pair", defArgs s_is_text_pair, defBody s_is_text_pair, defScope s_is_text_pair, [], []⟩) rfl
  have F_is_text_pair : FnP K "is_text_pair" s_is_text_pair (He.ga K "is_text_pair") fd_is_text_pair := F_is_text_pair
  have g_is_text_pair : mg "is_text_pair" = some (.ref (He.ga K "is_text_pair")) := He.glo_ok X G (cd.fact 3 (f := .glo "is_text_pair") rfl)
  have b_is_text_pair : Binds K fd_is_text_pair P_is_text_pair [] := F_is_text_pair.bindsN fun _ _ _ _ _ _ us hl => match us, hl with | [_], _ => rfl
  obtain ⟨fd_is_entry, F_is_entry⟩ := cd.def_ 4 (d := ⟨("is_entry", none), "is_entry", "is_entry", defArgs s_is_entry, defBody s_is_entry, defScope s_is_entry, [], []⟩) rfl
  have F_is_entry : FnP K "is_entry" s_is_entry (He.ga K "is_entry") fd_is_entry := F_is_entry
  have g_is_entry : mg "is_entry" = some (.ref (He.ga K "is_entry")) := He.glo_ok X G (cd.fact 4 (f := .glo "is_entry") rfl)
  have b_is_entry : Binds K fd_is_entry P_is_entry [] := F_is_entry.bindsN fun _ _ _ _ _ _ us hl => match us, hl with | [_], _ => rfl
  obtain ⟨fd_bad_home, F_bad_home⟩ := cd.def_ 5 (d := ⟨("bad_home", none), "bad_home", "bad_home", defArgs s_bad_home, defBody s_bad_home, defScope s_bad_home, [], []⟩) rfl
  have F_bad_home : FnP K "bad_home" s_bad_home (He.ga K "bad_home") fd_bad_home := F_bad_home
  have g_bad_home : mg "bad_home" = some (.ref (He.ga K "bad_home")) := He.glo_ok X G (cd.fact 5 (f := .glo "bad_home") rfl)
  have b_bad_home : Binds K fd_bad_home P_bad_home [] := F_bad_home.bindsN fun _ _ _ _ _ _ us hl => match us, hl with | [_], _ => rfl
  obtain ⟨fd_bad_road, F_bad_road⟩ := cd.def_ 6 (d := ⟨("bad_road", none), "bad_road", "bad_road", defArgs s_bad_road, defBody s_bad_road, defScope s_bad_road, [], []⟩) rfl
  have F_bad_road : FnP K "bad_road" s_bad_road (He.ga K "bad_road") fd_bad_road := F_bad_road
  have g_bad_road : mg "bad_road" = some (.ref (He.ga K "bad_road")) := He.glo_ok X G (cd.fact 6 (f := .glo "bad_road") rfl)
  have b_bad_road : Binds K fd_bad_road P_bad_road [] := F_bad_road.bindsN fun _ _ _ _ _ _ us hl => match us, hl with | [_, _], _ => rfl
  obtain ⟨fd_town_wrong, F_town_wrong⟩ := cd.def_ 7 (d := ⟨("town_wrong", none), "town_wrong", "town_wrong", defArgs s_town_wrong, defBody s_town_wrong, defScope s_town_wrong, [], []⟩) rfl
  have F_town_wrong : FnP K "town_wrong" s_town_wrong (He.ga K "town_wrong") fd_town_wrong := F_town_wrong
  have g_town_wrong : mg "town_wrong" = some (.ref (He.ga K "town_wrong")) := He.glo_ok X G (cd.fact 7 (f := .glo "town_wrong") rfl)
  have b_town_wrong : Binds K fd_town_wrong P_town_wrong [] := F_town_wrong.bindsN fun _ _ _ _ _ _ us hl => match us, hl with | [_], _ => rfl
  obtain ⟨fd_check_town, F_check_town⟩ := cd.def_ 8 (d := ⟨("check_town", none), "check_town", "check_town", defArgs s_check_town, defBody s_check_town, defScope s_check_town, [], []⟩) rfl
  have F_check_town : FnP K "check_town" s_check_town (He.ga K "check_town") fd_check_town := F_check_town
  have g_check_town : mg "check_town" = some (.ref (He.ga K "check_town")) := He.glo_ok X G (cd.fact 8 (f := .glo "check_town") rfl)
  have b_check_town : Binds K fd_check_town P_check_town [] := F_check_town.bindsN fun _ _ _ _ _ _ us hl => match us, hl with | [_], _ => rfl
  obtain ⟨fd_standing_wrong, F_standing_wrong⟩ := cd.def_ 9 (d := ⟨("standing_wrong", none), "standing_wrong", "standing_wrong", defArgs s_standing_wrong, defBody s_standing_wrong, defScope s_standing_wrong, [], []⟩) rfl
  have F_standing_wrong : FnP K "standing_wrong" s_standing_wrong (He.ga K "standing_wrong") fd_standing_wrong := F_standing_wrong
  have g_standing_wrong : mg "standing_wrong" = some (.ref (He.ga K "standing_wrong")) := He.glo_ok X G (cd.fact 9 (f := .glo "standing_wrong") rfl)
  have b_standing_wrong : Binds K fd_standing_wrong P_standing_wrong [] := F_standing_wrong.bindsN fun _ _ _ _ _ _ us hl => match us, hl with | [_, _], _ => rfl
  obtain ⟨fd_check_standing, F_check_standing⟩ := cd.def_ 10 (d := ⟨("check_standing", none), "check_standing", "check_standing", defArgs s_check_standing, defBody s_check_standing, defScope s_check_standing, [], []⟩) rfl
  have F_check_standing : FnP K "check_standing" s_check_standing (He.ga K "check_standing") fd_check_standing := F_check_standing
  have g_check_standing : mg "check_standing" = some (.ref (He.ga K "check_standing")) := He.glo_ok X G (cd.fact 10 (f := .glo "check_standing") rfl)
  have b_check_standing : Binds K fd_check_standing P_check_standing [] := F_check_standing.bindsN fun _ _ _ _ _ _ us hl => match us, hl with | [_, _], _ => rfl
  obtain ⟨fd_wealths, F_wealths⟩ := cd.def_ 11 (d := ⟨("wealths", none), "wealths", "wealths", defArgs s_wealths, defBody s_wealths, defScope s_wealths, [], []⟩) rfl
  have F_wealths : FnP K "wealths" s_wealths (He.ga K "wealths") fd_wealths := F_wealths
  have g_wealths : mg "wealths" = some (.ref (He.ga K "wealths")) := He.glo_ok X G (cd.fact 11 (f := .glo "wealths") rfl)
  have b_wealths : Binds K fd_wealths P_wealths [] := F_wealths.bindsN fun _ _ _ _ _ _ us hl => match us, hl with | [_, _], _ => rfl
  obtain ⟨fd_stands_of, F_stands_of⟩ := cd.def_ 12 (d := ⟨("stands_of", none), "stands_of", "stands_of", defArgs s_stands_of, defBody s_stands_of, defScope s_stands_of, [], []⟩) rfl
  have F_stands_of : FnP K "stands_of" s_stands_of (He.ga K "stands_of") fd_stands_of := F_stands_of
  have g_stands_of : mg "stands_of" = some (.ref (He.ga K "stands_of")) := He.glo_ok X G (cd.fact 12 (f := .glo "stands_of") rfl)
  have b_stands_of : Binds K fd_stands_of P_stands_of [] := F_stands_of.bindsN fun _ _ _ _ _ _ us hl => match us, hl with | [_, _], _ => rfl
  obtain ⟨fd_may, F_may⟩ := cd.def_ 13 (d := ⟨("may", none), "may", "may", defArgs s_may, defBody s_may, defScope s_may, [], []⟩) rfl
  have F_may : FnP K "may" s_may (He.ga K "may") fd_may := F_may
  have g_may : mg "may" = some (.ref (He.ga K "may")) := He.glo_ok X G (cd.fact 13 (f := .glo "may") rfl)
  have b_may : Binds K fd_may P_may [] := F_may.bindsN fun _ _ _ _ _ _ us hl => match us, hl with | [_, _], _ => rfl
  obtain ⟨fd_law_at, F_law_at⟩ := cd.def_ 14 (d := ⟨("_law_at", none), "_law_at", "_law_at", defArgs s_law_at, defBody s_law_at, defScope s_law_at, [], []⟩) rfl
  have F_law_at : FnP K "_law_at" s_law_at (He.ga K "_law_at") fd_law_at := F_law_at
  have g_law_at : mg "_law_at" = some (.ref (He.ga K "_law_at")) := He.glo_ok X G (cd.fact 14 (f := .glo "_law_at") rfl)
  have b_law_at : Binds K fd_law_at P_law_at [] := F_law_at.bindsN fun _ _ _ _ _ _ us hl => match us, hl with | [_, _], _ => rfl
  obtain ⟨fd_law_mixed, F_law_mixed⟩ := cd.def_ 15 (d := ⟨("_law_mixed", none), "_law_mixed", "_law_mixed", defArgs s_law_mixed, defBody s_law_mixed, defScope s_law_mixed, [], []⟩) rfl
  have F_law_mixed : FnP K "_law_mixed" s_law_mixed (He.ga K "_law_mixed") fd_law_mixed := F_law_mixed
  have g_law_mixed : mg "_law_mixed" = some (.ref (He.ga K "_law_mixed")) := He.glo_ok X G (cd.fact 15 (f := .glo "_law_mixed") rfl)
  have b_law_mixed : Binds K fd_law_mixed P_law_mixed [] := F_law_mixed.bindsN fun _ _ _ _ _ _ us hl => match us, hl with | [_, _], _ => rfl
  obtain ⟨fd_law_purse, F_law_purse⟩ := cd.def_ 16 (d := ⟨("_law_purse", none), "_law_purse", "_law_purse", defArgs s_law_purse, defBody s_law_purse, defScope s_law_purse, [], []⟩) rfl
  have F_law_purse : FnP K "_law_purse" s_law_purse (He.ga K "_law_purse") fd_law_purse := F_law_purse
  have g_law_purse : mg "_law_purse" = some (.ref (He.ga K "_law_purse")) := He.glo_ok X G (cd.fact 16 (f := .glo "_law_purse") rfl)
  have b_law_purse : Binds K fd_law_purse P_law_purse [] := F_law_purse.bindsN fun _ _ _ _ _ _ us hl => match us, hl with | [_, _], _ => rfl
  obtain ⟨fd_law_draw, F_law_draw⟩ := cd.def_ 17 (d := ⟨("_law_draw", none), "_law_draw", "_law_draw", defArgs s_law_draw, defBody s_law_draw, defScope s_law_draw, [], []⟩) rfl
  have F_law_draw : FnP K "_law_draw" s_law_draw (He.ga K "_law_draw") fd_law_draw := F_law_draw
  have g_law_draw : mg "_law_draw" = some (.ref (He.ga K "_law_draw")) := He.glo_ok X G (cd.fact 17 (f := .glo "_law_draw") rfl)
  have b_law_draw : Binds K fd_law_draw P_law_draw [] := F_law_draw.bindsN fun _ _ _ _ _ _ us hl => match us, hl with | [_, _], _ => rfl
  obtain ⟨fd_law_words, F_law_words⟩ := cd.def_ 18 (d := ⟨("_law_words", none), "_law_words", "_law_words", defArgs s_law_words, defBody s_law_words, defScope s_law_words, [], []⟩) rfl
  have F_law_words : FnP K "_law_words" s_law_words (He.ga K "_law_words") fd_law_words := F_law_words
  have g_law_words : mg "_law_words" = some (.ref (He.ga K "_law_words")) := He.glo_ok X G (cd.fact 18 (f := .glo "_law_words") rfl)
  have b_law_words : Binds K fd_law_words P_law_words [] := F_law_words.bindsN fun _ _ _ _ _ _ us hl => match us, hl with | [_, _], _ => rfl
  obtain ⟨fd_law_town, F_law_town⟩ := cd.def_ 19 (d := ⟨("_law_town", none), "_law_town", "_law_town", defArgs s_law_town, defBody s_law_town, defScope s_law_town, [], []⟩) rfl
  have F_law_town : FnP K "_law_town" s_law_town (He.ga K "_law_town") fd_law_town := F_law_town
  have g_law_town : mg "_law_town" = some (.ref (He.ga K "_law_town")) := He.glo_ok X G (cd.fact 19 (f := .glo "_law_town") rfl)
  have b_law_town : Binds K fd_law_town P_law_town [] := F_law_town.bindsN fun _ _ _ _ _ _ us hl => match us, hl with | [_, _], _ => rfl
  obtain ⟨fd_law_standing, F_law_standing⟩ := cd.def_ 20 (d := ⟨("_law_standing", none), "_law_standing", "_law_standing", defArgs s_law_standing, defBody s_law_standing, defScope s_law_standing, [], []⟩) rfl
  have F_law_standing : FnP K "_law_standing" s_law_standing (He.ga K "_law_standing") fd_law_standing := F_law_standing
  have g_law_standing : mg "_law_standing" = some (.ref (He.ga K "_law_standing")) := He.glo_ok X G (cd.fact 20 (f := .glo "_law_standing") rfl)
  have b_law_standing : Binds K fd_law_standing P_law_standing [] := F_law_standing.bindsN fun _ _ _ _ _ _ us hl => match us, hl with | [_, _], _ => rfl
  obtain ⟨fd_law_is_name, F_law_is_name⟩ := cd.def_ 21 (d := ⟨("_law_is_name", none), "_law_is_name", "_law_is_name", defArgs s_law_is_name, defBody s_law_is_name, defScope s_law_is_name, [], []⟩) rfl
  have F_law_is_name : FnP K "_law_is_name" s_law_is_name (He.ga K "_law_is_name") fd_law_is_name := F_law_is_name
  have g_law_is_name : mg "_law_is_name" = some (.ref (He.ga K "_law_is_name")) := He.glo_ok X G (cd.fact 21 (f := .glo "_law_is_name") rfl)
  have b_law_is_name : Binds K fd_law_is_name P_law_is_name [] := F_law_is_name.bindsN fun _ _ _ _ _ _ us hl => match us, hl with | [_], _ => rfl
  obtain ⟨fd_law_is_whole, F_law_is_whole⟩ := cd.def_ 22 (d := ⟨("_law_is_whole", none), "_law_is_whole", "_law_is_whole", defArgs s_law_is_whole, defBody s_law_is_whole, defScope s_law_is_whole, [], []⟩) rfl
  have F_law_is_whole : FnP K "_law_is_whole" s_law_is_whole (He.ga K "_law_is_whole") fd_law_is_whole := F_law_is_whole
  have g_law_is_whole : mg "_law_is_whole" = some (.ref (He.ga K "_law_is_whole")) := He.glo_ok X G (cd.fact 22 (f := .glo "_law_is_whole") rfl)
  have b_law_is_whole : Binds K fd_law_is_whole P_law_is_whole [] := F_law_is_whole.bindsN fun _ _ _ _ _ _ us hl => match us, hl with | [_], _ => rfl
  obtain ⟨fd_law_town_due, F_law_town_due⟩ := cd.def_ 23 (d := ⟨("_law_town_due", none), "_law_town_due", "_law_town_due", defArgs s_law_town_due, defBody s_law_town_due, defScope s_law_town_due, [], []⟩) rfl
  have F_law_town_due : FnP K "_law_town_due" s_law_town_due (He.ga K "_law_town_due") fd_law_town_due := F_law_town_due
  have g_law_town_due : mg "_law_town_due" = some (.ref (He.ga K "_law_town_due")) := He.glo_ok X G (cd.fact 23 (f := .glo "_law_town_due") rfl)
  have b_law_town_due : Binds K fd_law_town_due P_law_town_due [] := F_law_town_due.bindsN fun _ _ _ _ _ _ us hl => match us, hl with | [_], _ => rfl
  obtain ⟨fd_law_standing_due, F_law_standing_due⟩ := cd.def_ 24 (d := ⟨("_law_standing_due", none), "_law_standing_due", "_law_standing_due", defArgs s_law_standing_due, defBody s_law_standing_due, defScope s_law_standing_due, [], []⟩) rfl
  have F_law_standing_due : FnP K "_law_standing_due" s_law_standing_due (He.ga K "_law_standing_due") fd_law_standing_due := F_law_standing_due
  have g_law_standing_due : mg "_law_standing_due" = some (.ref (He.ga K "_law_standing_due")) := He.glo_ok X G (cd.fact 24 (f := .glo "_law_standing_due") rfl)
  have b_law_standing_due : Binds K fd_law_standing_due P_law_standing_due [] := F_law_standing_due.bindsN fun _ _ _ _ _ _ us hl => match us, hl with | [_, _], _ => rfl
  obtain ⟨fd_law_odd, F_law_odd⟩ := cd.def_ 25 (d := ⟨("_law_odd", none), "_law_odd", "_law_odd", defArgs s_law_odd, defBody s_law_odd, defScope s_law_odd, [], []⟩) rfl
  have F_law_odd : FnP K "_law_odd" s_law_odd (He.ga K "_law_odd") fd_law_odd := F_law_odd
  have g_law_odd : mg "_law_odd" = some (.ref (He.ga K "_law_odd")) := He.glo_ok X G (cd.fact 25 (f := .glo "_law_odd") rfl)
  have b_law_odd : Binds K fd_law_odd P_law_odd [] := F_law_odd.bindsN fun _ _ _ _ _ _ us hl => match us, hl with | [_], _ => rfl
  obtain ⟨fd_law_bent, F_law_bent⟩ := cd.def_ 26 (d := ⟨("_law_bent", none), "_law_bent", "_law_bent", defArgs s_law_bent, defBody s_law_bent, defScope s_law_bent, [], []⟩) rfl
  have F_law_bent : FnP K "_law_bent" s_law_bent (He.ga K "_law_bent") fd_law_bent := F_law_bent
  have g_law_bent : mg "_law_bent" = some (.ref (He.ga K "_law_bent")) := He.glo_ok X G (cd.fact 26 (f := .glo "_law_bent") rfl)
  have b_law_bent : Binds K fd_law_bent P_law_bent [] := F_law_bent.bindsN fun _ _ _ _ _ _ us hl => match us, hl with | [_, _], _ => rfl
  obtain ⟨fd_law_caught, F_law_caught⟩ := cd.def_ 27 (d := ⟨("_law_caught", none), "_law_caught", "_law_caught", defArgs s_law_caught, defBody s_law_caught, defScope s_law_caught, [], []⟩) rfl
  have F_law_caught : FnP K "_law_caught" s_law_caught (He.ga K "_law_caught") fd_law_caught := F_law_caught
  have g_law_caught : mg "_law_caught" = some (.ref (He.ga K "_law_caught")) := He.glo_ok X G (cd.fact 27 (f := .glo "_law_caught") rfl)
  have b_law_caught : Binds K fd_law_caught P_law_caught [] := F_law_caught.bindsN fun _ _ _ _ _ _ us hl => match us, hl with | [_, _, _], _ => rfl
  obtain ⟨fd_law_right, F_law_right⟩ := cd.def_ 28 (d := ⟨("_law_right", none), "_law_right", "_law_right", defArgs s_law_right, defBody s_law_right, defScope s_law_right, [], []⟩) rfl
  have F_law_right : FnP K "_law_right" s_law_right (He.ga K "_law_right") fd_law_right := F_law_right
  have g_law_right : mg "_law_right" = some (.ref (He.ga K "_law_right")) := He.glo_ok X G (cd.fact 28 (f := .glo "_law_right") rfl)
  have b_law_right : Binds K fd_law_right P_law_right [] := F_law_right.bindsN fun _ _ _ _ _ _ us hl => match us, hl with | [_, _], _ => rfl
  obtain ⟨fd_law_all_signs, F_law_all_signs⟩ := cd.def_ 29 (d := ⟨("_law_all_signs", none), "_law_all_signs", "_law_all_signs", defArgs s_law_all_signs, defBody s_law_all_signs, defScope s_law_all_signs, [], []⟩) rfl
  have F_law_all_signs : FnP K "_law_all_signs" s_law_all_signs (He.ga K "_law_all_signs") fd_law_all_signs := F_law_all_signs
  have g_law_all_signs : mg "_law_all_signs" = some (.ref (He.ga K "_law_all_signs")) := He.glo_ok X G (cd.fact 29 (f := .glo "_law_all_signs") rfl)
  have b_law_all_signs : Binds K fd_law_all_signs P_law_all_signs [] := F_law_all_signs.bindsN fun _ _ _ _ _ _ us hl => match us, hl with | [], _ => rfl
  obtain ⟨fd_law, F_law⟩ := cd.def_ 30 (d := ⟨("law", none), "law", "law", defArgs s_law, defBody s_law, defScope s_law, [], []⟩) rfl
  have F_law : FnP K "law" s_law (He.ga K "law") fd_law := F_law
  have g_law : mg "law" = some (.ref (He.ga K "law")) := He.glo_ok X G (cd.fact 30 (f := .glo "law") rfl)
  have b_law : Binds K fd_law P_law [] := F_law.bindsN fun _ _ _ _ _ _ us hl => match us, hl with | [_], _ => rfl
  obtain ⟨fd_NoTown, F_NoTown⟩ := cd.def_ 31 (d := ⟨("NoTown", some "__init__"), "__init__", "NoTown.__init__", defArgs i_NoTown, defBody i_NoTown, defScope i_NoTown, [.non], []⟩) rfl
  have g_NoTown : mg "NoTown" = some (.ref (He.ga K "NoTown")) := He.glo_ok X G (cd.fact 31 (f := .glo "NoTown") rfl)
  have F_NoTown : FunD K "__init__" "NoTown.__init__" (defArgs i_NoTown) (defBody i_NoTown) (defScope i_NoTown) [.non] [] (He.ma K (He.ga K "NoTown") "__init__") fd_NoTown := F_NoTown
  have bi_NoTown : Binds K fd_NoTown ["self", "wrong"] [] := by
    obtain ⟨ds, hv, hb⟩ := F_NoTown.binds1 (ps := ["self", "wrong"]) 2 1 (by simp) rfl fun _ _ _ _ _ _ _ us its h1 h2 => match us, its, h1, h2 with | [_, _], [_], _, _ => ⟨_, rfl, rfl⟩
    cases hv
    exact hb
  obtain ⟨fd_NoStanding, F_NoStanding⟩ := cd.def_ 32 (d := ⟨("NoStanding", some "__init__"), "__init__", "NoStanding.__init__", defArgs i_NoStanding, defBody i_NoStanding, defScope i_NoStanding, [.non], []⟩) rfl
  have g_NoStanding : mg "NoStanding" = some (.ref (He.ga K "NoStanding")) := He.glo_ok X G (cd.fact 32 (f := .glo "NoStanding") rfl)
  have F_NoStanding : FunD K "__init__" "NoStanding.__init__" (defArgs i_NoStanding) (defBody i_NoStanding) (defScope i_NoStanding) [.non] [] (He.ma K (He.ga K "NoStanding") "__init__") fd_NoStanding := F_NoStanding
  have bi_NoStanding : Binds K fd_NoStanding ["self", "wrong"] [] := by
    obtain ⟨ds, hv, hb⟩ := F_NoStanding.binds1 (ps := ["self", "wrong"]) 2 1 (by simp) rfl fun _ _ _ _ _ _ _ us its h1 h2 => match us, its, h1, h2 with | [_, _], [_], _, _ => ⟨_, rfl, rfl⟩
    cases hv
    exact hb
  have g_TownError : mg "TownError" = some (.ref (He.ga K "TownError")) := He.glo_ok X G (cd.fact 33 (f := .glo "TownError") rfl)
  obtain ⟨t_LETTERS, g_LETTERS⟩ := He.str_ok X G (cd.fact 34 (f := .str "LETTERS" letters) rfl)
  obtain ⟨t_SIGNS, g_SIGNS⟩ := He.str_ok X G (cd.fact 35 (f := .str "SIGNS" signs) rfl)
  have fr : Free mg := by
    intro x hx
    simp only [frees, List.mem_cons, List.not_mem_nil, or_false] at hx
    rcases hx with rfl | rfl | rfl | rfl | rfl | rfl | rfl | rfl | rfl | rfl | rfl | rfl | rfl | rfl | rfl | rfl | rfl | rfl | rfl | rfl
    · exact He.free_ok X G (cd.fact 36 (f := .free "isinstance") rfl)
    · exact He.free_ok X G (cd.fact 37 (f := .free "int") rfl)
    · exact He.free_ok X G (cd.fact 38 (f := .free "bool") rfl)
    · exact He.free_ok X G (cd.fact 39 (f := .free "str") rfl)
    · exact He.free_ok X G (cd.fact 40 (f := .free "tuple") rfl)
    · exact He.free_ok X G (cd.fact 41 (f := .free "list") rfl)
    · exact He.free_ok X G (cd.fact 42 (f := .free "dict") rfl)
    · exact He.free_ok X G (cd.fact 43 (f := .free "len") rfl)
    · exact He.free_ok X G (cd.fact 44 (f := .free "range") rfl)
    · exact He.free_ok X G (cd.fact 45 (f := .free "enumerate") rfl)
    · exact He.free_ok X G (cd.fact 46 (f := .free "zip") rfl)
    · exact He.free_ok X G (cd.fact 47 (f := .free "max") rfl)
    · exact He.free_ok X G (cd.fact 48 (f := .free "min") rfl)
    · exact He.free_ok X G (cd.fact 49 (f := .free "sorted") rfl)
    · exact He.free_ok X G (cd.fact 50 (f := .free "all") rfl)
    · exact He.free_ok X G (cd.fact 51 (f := .free "any") rfl)
    · exact He.free_ok X G (cd.fact 52 (f := .free "abs") rfl)
    · exact He.free_ok X G (cd.fact 53 (f := .free "repr") rfl)
    · exact He.free_ok X G (cd.fact 54 (f := .free "sum") rfl)
    · exact He.free_ok X G (cd.fact 55 (f := .free "set") rfl)
  unfold hex at hx
  simp only [Bool.and_eq_true, decide_eq_true_eq] at hx
  obtain ⟨x1, x2, k1, k2, k3⟩ := hx
  obtain ⟨xT, m1⟩ := excF_of (P := P) (w := w) (base := base) x1 g_NoTown F_NoTown sc_NoTown bi_NoTown rfl rfl
  obtain ⟨xS, m2⟩ := excF_of (P := P) (w := w) (base := base) x2 g_NoStanding F_NoStanding sc_NoStanding bi_NoStanding rfl rfl
  have hc : fd_is_name.code = .ref (He.cT K ("is_name", none)).1 := by
    obtain ⟨oc, od, dV, kV, doc, pm, an, cdv, ct, osl, e, lk, hcd, _, _⟩ := F_is_name.ex
    subst e
    obtain ⟨c0, hc0⟩ := He.codeIn_ref hcd
    have q := He.codeOf_eq (p := ("is_name", none)) lk hc0
    rw [show (He.cT K ("is_name", none)).1 = He.codeOf K ("is_name", none) from rfl, q]
    exact hc0
  generalize hTT : (He.cT K ("is_name", none)).2 = T at TB hT
  generalize hCC : (He.cT K ("is_name", none)).1 = cc at TB hc
  generalize hCT : He.ga K "NoTown" = CT at xT m1 k1 k2
  generalize hCS : He.ga K "NoStanding" = CS at xS m2 k2 k3
  have c_is_whole : Cal P w K mg base "is_whole" 1 P_is_whole sp_is_whole := ⟨_, _, ok_is_whole F_is_whole fr, g_is_whole, F_is_whole.kp, b_is_whole⟩
  have c_is_pair : Cal P w K mg base "is_pair" 1 P_is_pair sp_is_pair := ⟨_, _, ok_is_pair F_is_pair fr, g_is_pair, F_is_pair.kp, b_is_pair⟩
  have c_is_name : Cal P w K mg base "is_name" 1 P_is_name (sp_is_name T) := ⟨_, _, ok_is_name F_is_name fr hc ⟨TB.code, TB.bm, TB.gP⟩ hbase g_SIGNS g_LETTERS, g_is_name, F_is_name.kp, b_is_name⟩
  have c_is_text_pair : Cal P w K mg base "is_text_pair" 2 P_is_text_pair sp_is_text_pair := ⟨_, _, ok_is_text_pair F_is_text_pair fr c_is_pair, g_is_text_pair, F_is_text_pair.kp, b_is_text_pair⟩
  have c_is_entry : Cal P w K mg base "is_entry" 2 P_is_entry (sp_is_entry T) := ⟨_, _, ok_is_entry F_is_entry fr c_is_pair c_is_name c_is_whole, g_is_entry, F_is_entry.kp, b_is_entry⟩
  have c_bad_home : Cal P w K mg base "bad_home" 3 P_bad_home (sp_bad_home T) := ⟨_, _, ok_bad_home F_bad_home fr c_is_entry, g_bad_home, F_bad_home.kp, b_bad_home⟩
  have c_bad_road : Cal P w K mg base "bad_road" 3 P_bad_road sp_bad_road := ⟨_, _, ok_bad_road F_bad_road fr c_is_text_pair, g_bad_road, F_bad_road.kp, b_bad_road⟩
  have c_town_wrong : Cal P w K mg base "town_wrong" 4 P_town_wrong (sp_town_wrong T) := ⟨_, _, ok_town_wrong F_town_wrong fr c_is_pair c_bad_home c_bad_road, g_town_wrong, F_town_wrong.kp, b_town_wrong⟩
  have c_check_town : Cal P w K mg base "check_town" 5 P_check_town (sp_check_town T CT) := ⟨_, _, ok_check_town F_check_town fr c_town_wrong xT, g_check_town, F_check_town.kp, b_check_town⟩
  have c_standing_wrong : Cal P w K mg base "standing_wrong" 6 P_standing_wrong (sp_standing_wrong T CT) := ⟨_, _, ok_standing_wrong F_standing_wrong fr c_check_town c_is_entry, g_standing_wrong, F_standing_wrong.kp, b_standing_wrong⟩
  have c_check_standing : Cal P w K mg base "check_standing" 7 P_check_standing (sp_check_standing T CT CS) := ⟨_, _, ok_check_standing F_check_standing fr c_standing_wrong xS, g_check_standing, F_check_standing.kp, b_check_standing⟩
  have c_wealths : Cal P w K mg base "wealths" 8 P_wealths (sp_way T CT CS) := ⟨_, _, ok_wealths F_wealths fr c_check_standing, g_wealths, F_wealths.kp, b_wealths⟩
  have c_stands_of : Cal P w K mg base "stands_of" 8 P_stands_of (sp_way T CT CS) := ⟨_, _, ok_stands_of F_stands_of fr c_check_standing, g_stands_of, F_stands_of.kp, b_stands_of⟩
  have c_may : Cal P w K mg base "may" 8 P_may (sp_way T CT CS) := ⟨_, _, ok_may F_may fr c_check_standing, g_may, F_may.kp, b_may⟩
  have c_law_at : Cal P w K mg base "_law_at" 1 P_law_at (sp_law_at K) := ⟨_, _, ok_law_at F_law_at fr, g_law_at, F_law_at.kp, b_law_at⟩
  have c_law_mixed : Cal P w K mg base "_law_mixed" 1 P_law_mixed sp_law_mixed := ⟨_, _, ok_law_mixed F_law_mixed fr, g_law_mixed, F_law_mixed.kp, b_law_mixed⟩
  have c_law_purse : Cal P w K mg base "_law_purse" 2 P_law_purse (sp_law_purse K) := ⟨_, _, ok_law_purse F_law_purse fr c_law_at, g_law_purse, F_law_purse.kp, b_law_purse⟩
  have c_law_draw : Cal P w K mg base "_law_draw" 2 P_law_draw sp_law_draw := ⟨_, _, ok_law_draw F_law_draw fr c_law_mixed, g_law_draw, F_law_draw.kp, b_law_draw⟩
  have c_law_words : Cal P w K mg base "_law_words" 3 P_law_words sp_law_words := ⟨_, _, ok_law_words F_law_words fr c_law_draw, g_law_words, F_law_words.kp, b_law_words⟩
  have c_law_town : Cal P w K mg base "_law_town" 4 P_law_town sp_law_town := ⟨_, _, ok_law_town F_law_town fr c_law_draw c_law_words, g_law_town, F_law_town.kp, b_law_town⟩
  have c_law_standing : Cal P w K mg base "_law_standing" 4 P_law_standing sp_law_standing := ⟨_, _, ok_law_standing F_law_standing fr c_law_draw c_law_words, g_law_standing, F_law_standing.kp, b_law_standing⟩
  have c_law_is_name : Cal P w K mg base "_law_is_name" 1 P_law_is_name sp_law_is_name := ⟨_, _, ok_law_is_name F_law_is_name fr, g_law_is_name, F_law_is_name.kp, b_law_is_name⟩
  have c_law_is_whole : Cal P w K mg base "_law_is_whole" 1 P_law_is_whole sp_law_is_whole := ⟨_, _, ok_law_is_whole F_law_is_whole fr, g_law_is_whole, F_law_is_whole.kp, b_law_is_whole⟩
  have c_law_town_due : Cal P w K mg base "_law_town_due" 2 P_law_town_due sp_law_town_due := ⟨_, _, ok_law_town_due F_law_town_due fr c_law_is_name c_law_is_whole, g_law_town_due, F_law_town_due.kp, b_law_town_due⟩
  have c_law_standing_due : Cal P w K mg base "_law_standing_due" 2 P_law_standing_due sp_law_standing_due := ⟨_, _, ok_law_standing_due F_law_standing_due fr c_law_is_name c_law_is_whole, g_law_standing_due, F_law_standing_due.kp, b_law_standing_due⟩
  have c_law_odd : Cal P w K mg base "_law_odd" 3 P_law_odd sp_law_odd := ⟨_, _, ok_law_odd F_law_odd fr c_law_draw, g_law_odd, F_law_odd.kp, b_law_odd⟩
  have bent0 : FnOk P w K mg base (L2.CX P w) 4 (He.ga K "_law_bent") fd_law_bent P_law_bent (sp_law_bent 0) := ⟨fun _ _ _ _ z => z.elim, fun _ _ _ _ _ _ _ _ _ _ _ _ _ z => z.elim⟩
  have bent : ∀ n : Nat, FnOk P w K mg base (L2.CX P w) (n + 4) (He.ga K "_law_bent") fd_law_bent P_law_bent (sp_law_bent n) := fun n => by
    induction n with
    | zero => exact bent0
    | succ n ih =>
      have e : n + 1 + 4 = n + 4 + 1 := by omega
      rw [e]
      exact ok_law_bent1 F_law_bent fr c_law_draw c_law_odd ⟨_, _, ih, g_law_bent, F_law_bent.kp, b_law_bent⟩
  have c_law_bent : Cal P w K mg base "_law_bent" 8 P_law_bent (sp_law_bent 4) := ⟨_, _, bent 4, g_law_bent, F_law_bent.kp, b_law_bent⟩
  have C : Classes K (He.ga K "TownError") CT CS := ⟨m1, m2, k1, k2, k3⟩
  have c_law_caught : Cal P w K mg base "_law_caught" 9 P_law_caught (sp_law_caught T) := ⟨_, _, ok_law_caught F_law_caught fr g_TownError C xT xS c_standing_wrong c_wealths c_stands_of c_may, g_law_caught, F_law_caught.kp, b_law_caught⟩
  have c_law_right : Cal P w K mg base "_law_right" 10 P_law_right (sp_law_right T) := ⟨_, _, ok_law_right F_law_right fr c_law_town_due c_law_standing_due c_town_wrong c_standing_wrong c_law_caught, g_law_right, F_law_right.kp, b_law_right⟩
  have c_law_all_signs : Cal P w K mg base "_law_all_signs" 7 P_law_all_signs (sp_law_all_signs T) := ⟨_, _, ok_law_all_signs F_law_all_signs fr c_town_wrong c_standing_wrong, g_law_all_signs, F_law_all_signs.kp, b_law_all_signs⟩
  have tg : TG T H := ⟨_, hT, by first | exact True.intro | decide | (simp [TriplesOk]) | (intro x hx; cases hx)⟩
  have bl : BindsTo s fd_law { pos := [.ref a] } (P_law.zip [Value.ref a]) := F_law.bindsA (ps := P_law) (fun _ _ _ _ _ _ us hl => match us, hl with | [_], _ => rfl) s [.ref a] rfl
  exact law_runs (v := .ref a) (u := .ref a) F_law fr ⟨rfl, by decide, by decide⟩ e0 bl (.cons rfl .nil) ⟨a, ns, rfl, hS⟩ tg c_law_purse c_law_town c_law_standing c_law_right c_law_bent c_law_all_signs
end WR
open PySem PySem.W PySem.Calls PyProof.Rows
set_option maxRecDepth 100000 in
set_option maxHeartbeats 0 in
theorem PySem.Challenge.cw_worthrooms_k01_towns_and_standings_looke_holds : PySem.Challenge.rw_worthrooms_k01_towns_and_standings_looke.Holds := by
  w_on; o_law
  refine HandSHeadRun.head_any (r := OpenLaw.row PySem.Challenge.rw_worthrooms_k01_towns_and_standings_looke) (q := view (OpenLaw.row PySem.Challenge.rw_worthrooms_k01_towns_and_standings_looke).prog [43]) (H := WR.hH) (ob := WR.hob) (M := 4000) (loose := ((["__name__", "TownError", "NoTown", "NoStanding", "LETTERS", "SIGNS", "is_whole", "is_name", "is_pair", "is_text_pair", "is_entry", "bad_home", "bad_road", "town_wrong", "check_town"] : List Str) ++ (["standing_wrong", "check_standing", "wealth_by_hand", "hands_at", "wealths", "stands_of", "road_ends", "shortage", "may", "_law_at", "_law_mixed", "_law_purse", "_law_draw", "_law_words", "_law_town"] : List Str) ++ (["_law_standing", "_law_is_name", "_law_is_whole", "_law_town_due", "_law_standing_due", "_law_odd", "_law_bent", "_law_caught", "_law_right", "_law_all_signs"] : List Str))) (d := HandSHeadRun.topDef (OpenLaw.row PySem.Challenge.rw_worthrooms_k01_towns_and_standings_looke).prog 43) (kwd := []) WR.hob_eq
    (by kernel_rfl) (fun s => by kernel_rfl) WR.hrun (by kernel_rfl) (by kernel_rfl) (by kernel_rfl) (by rfl) (by first | assumption | decide +kernel) (by decide +kernel) ⟨rfl, rfl, rfl, rfl, rfl, by decide +kernel⟩ ?hw ?hc
  case hw => w_witness2
  case hc =>
    refine Att.attach_callB (l := PySem.Challenge.rw_worthrooms_k01_towns_and_standings_looke) (n := 63) rfl (by kernel_rfl) fun w s₀ s₁ mg mb fa o pm cd doc a vs ns G Y ho hd hcd hmg0 hobj hints hlen hbits hg => ?_
    obtain ⟨K, KX, c⟩ := Y
    have hmg : mg ("law" : PySem.Str) = some (.ref fa) := by
      have e : (HandSHeadRun.topDef (OpenLaw.row PySem.Challenge.rw_worthrooms_k01_towns_and_standings_looke).prog 43).name = ("law" : PySem.Str) := by kernel_rfl
      rw [← e]
      exact hmg0
    have hp : (("is_name", none) : PySem.Str × Option PySem.Str) ∈ WR.htf := List.mem_singleton.mpr rfl
    have efa : fa = He.ga K "law" := by
      have q := hmg.symm.trans (He.glo_ok KX G.T.g (c.t.d.fact 30 (f := .glo "law") rfl))
      cases q; rfl
    subst efa
    exact WR.law_callAt (CX := L2.CX _ w) KX G.T.g G.T.b G.T.builtins G.T.nolimit hg (c.empty _ hp) (c.out _ hp) (codeHd_of_K KX (c.hd _ hp)) G.T.bmain hobj hints (Nat.le_trans hlen (by decide))
      (fun base H hK hb TB e0 hT hS => WR.law_true KX G.T.g c hb TB e0 hT hS) (fun _ _ _ ⟨_, _, _, _, _, _, _, _, _, _, _, _, z⟩ => z)
