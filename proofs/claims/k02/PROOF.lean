import PyProof.Rows.All
import Wide.All
import OpenK.AllK
import Wide.FinOn
import HandS.ForMost
import HandS.IsInst
import HandS.OwnEq
import HandS.Evl
import HandS.ExcInit
import HandS.ExcOwn
import HandS.ExcField
import HandS.ExcIs
import HandS.TryOnly
import HandS.WordsExc
import KE.KExcIs
import HandS.ExcValue
import HandS.DictComp
import HandS.SetFor
import HandS.TupLe
import KE.KSortTupAny
import HandS.SortRule
import HandS.Iter
import HandS.Walk
import HandS.Dict
import HandS.Style
import PySem.Challenge.RW_willinglift_k02_standings_judged
set_option Elab.async false
set_option linter.all false
set_option maxRecDepth 100000
set_option maxHeartbeats 8000000
namespace Zo
open PySem L2 PySem.Spec PyProof.Rows
/-! ### the end, with what the computed names of the top hold -/
theorem walk_ofX {l : PySem.W.OpenLaw} {n k : Nat} {q : Program} {loose : List Str} {XP : (Str → Option Value) → Heap → Prop} {YP : World → Heap → Prop} {d : DefRec} {K : Params → PySem.W.Frag} {CX : World → CXT} {sp : PySem.W.Frag → Sp} {x : Str}
    (hn : l.most = some n) (hn2 : n ≤ sizeLine) (hdf : d.params.defaults = []) (hr : Room k callerA)
    (hY : ∀ (w : World) (h : Heap), YP w h → (K w.params).In h)
    (F : ∀ (w : World) (mg : Str → Option Value) (fa : Addr) (h : Heap), XP mg h → (K w.params).In h → h.Ns mainGlobals mg → mg d.name = some (.ref fa) →
      ∃ fd : FuncData, (∀ (s : Shared) (u : Value), BindsTo s fd ⟨[u], []⟩ [(x, u)]) ∧
        ∀ base : Heap, (K w.params).In base → base.Ns mainGlobals mg → FnOk l.prog w (K w.params) mg base (CX w) k fa fd [x] (sp (K w.params)))
    (hsp : ∀ (K : PySem.W.Frag) (H : Hp) (a : Addr) (ns : List Int), ns.length ≤ n → Only H → SqL K H a (ns.map V.int) → sp K [.ref a] H (fun v _ => v = .bl true) fun _ _ _ => False)
    (hCX : ∀ (w : World) (H : Hp) (s : Shared) (e : Value) (s' : Shared), CX w [] H s (fun _ _ _ => False) e s' → False) :
    PySem.W.WalkO q loose XP YP l.row.toRowW d [] (fun f vs => PySem.call f vs) := by
  refine Att.attach_call hn hdf fun w s₀ s₁ mg mb fa o pm cd doc a vs ns G Y ho hd hcd hmg hobj hints hlen hg => ?_
  have KX := hY w _ Y
  obtain ⟨fd, hb, hF⟩ := F w mg fa _ G.X KX G.T.g hmg
  exact law_call KX G.T.g G.T.b G.T.builtins G.T.nolimit hg hobj hints (Nat.le_trans hlen hn2) hr hF hb (fun H hO hS => hsp (K w.params) H a ns hlen hO hS) fun H e s' => hCX w H s₁ e s'
/-- a computed int of the top -/
theorem loose_int {p : Program} {lv : List (Str × PySem.W.WData)} {mg : Str → Option Value} {h : Heap} {x : Str} {i : Int} (X : PySem.W.XL p lv mg h) (hm : (x, PySem.W.WData.int i) ∈ lv) : ∃ t, mg x = some (.int i t) := by
  obtain ⟨v, e, r⟩ := X.2.val _ hm
  cases r with
  | int t => exact ⟨_, e⟩

/-! ### data -/
inductive Dt where
  | non
  | bl (b : Bool)
  | int (i : Int)
  | str (x : Str)
  | tup (l : List Dt)
  | lst (l : List Dt)
  | dct (ks : List Key) (l : List Dt)
  | ins (c : Nat) (ns : List Str) (l : List Dt)
/-! v stands for d; S: where its objects may stand -/
mutual
inductive RS (cl : Nat → Addr) (S : Addr → Prop) (H : Hp) : V → Dt → Prop
  | non : RS cl S H .non .non
  | bl (b : Bool) : RS cl S H (.bl b) (.bl b)
  | int (i : Int) : RS cl S H (.int i) (.int i)
  | str (x : Str) : RS cl S H (.str x) (.str x)
  | tup {a : Addr} {vs : List V} {ds : List Dt} : S a → H a = some (.tup vs) → RSs cl S H vs ds → RS cl S H (.ref a) (.tup ds)
  | lst {a : Addr} {vs : List V} {ds : List Dt} : S a → H a = some (.lst vs) → RSs cl S H vs ds → RS cl S H (.ref a) (.lst ds)
  | dct {a : Addr} {ks : List Key} {vs : List V} {ds : List Dt} : S a → H a = some (.dK (ks.zip vs)) → ks.length = vs.length → RSs cl S H vs ds → RS cl S H (.ref a) (.dct ks ds)
  | ins {a dx : Addr} {c : Nat} {ns : List Str} {vs : List V} {ds : List Dt} : S a → H a = some (.ins (cl c) dx (ns.zip vs)) → ns.length = vs.length → RSs cl S H vs ds → RS cl S H (.ref a) (.ins c ns ds)
inductive RSs (cl : Nat → Addr) (S : Addr → Prop) (H : Hp) : List V → List Dt → Prop
  | nil : RSs cl S H [] []
  | cons {v : V} {vs : List V} {d : Dt} {ds : List Dt} : RS cl S H v d → RSs cl S H vs ds → RSs cl S H (v :: vs) (d :: ds)
end
/-- .. anywhere but at h, the one list that calls change (the hand of the draws) -/
abbrev R (cl : Nat → Addr) (h : Addr) (H : Hp) : V → Dt → Prop := RS cl (fun a => a ≠ h) H
abbrev Rs (cl : Nat → Addr) (h : Addr) (H : Hp) : List V → List Dt → Prop := RSs cl (fun a => a ≠ h) H
mutual
theorem RS.to {cl : Nat → Addr} {S S' : Addr → Prop} {H H' : Hp} (k : ∀ a o, S a → H a = some o → S' a ∧ H' a = some o) : ∀ {v : V} {d : Dt}, RS cl S H v d → RS cl S' H' v d
  | _, _, .non => .non
  | _, _, .bl b => .bl b
  | _, _, .int i => .int i
  | _, _, .str x => .str x
  | _, _, .tup n e r => .tup (k _ _ n e).1 (k _ _ n e).2 (RSs.to k r)
  | _, _, .lst n e r => .lst (k _ _ n e).1 (k _ _ n e).2 (RSs.to k r)
  | _, _, .dct n e l r => .dct (k _ _ n e).1 (k _ _ n e).2 l (RSs.to k r)
  | _, _, .ins n e l r => .ins (k _ _ n e).1 (k _ _ n e).2 l (RSs.to k r)
theorem RSs.to {cl : Nat → Addr} {S S' : Addr → Prop} {H H' : Hp} (k : ∀ a o, S a → H a = some o → S' a ∧ H' a = some o) : ∀ {vs : List V} {ds : List Dt}, RSs cl S H vs ds → RSs cl S' H' vs ds
  | _, _, .nil => .nil
  | _, _, .cons r t => .cons (RS.to k r) (RSs.to k t)
end
/-- all that is tracked stays, but for what stands at h -/
def Kp (h : Addr) (H H' : Hp) : Prop := ∀ a o, a ≠ h → H a = some o → H' a = some o
theorem Kp.refl {h : Addr} (H : Hp) : Kp h H H := fun _ _ _ e => e
theorem Kp.trans {h : Addr} {H H1 H2 : Hp} (a : Kp h H H1) (b : Kp h H1 H2) : Kp h H H2 := fun x o n e => b x o n (a x o n e)
mutual
theorem RS.kp {cl : Nat → Addr} {h : Addr} {H H' : Hp} (k : Kp h H H') : ∀ {v : V} {d : Dt}, R cl h H v d → R cl h H' v d
  | _, _, .non => .non
  | _, _, .bl b => .bl b
  | _, _, .int i => .int i
  | _, _, .str x => .str x
  | _, _, .tup n e r => .tup n (k _ _ n e) (RSs.kp k r)
  | _, _, .lst n e r => .lst n (k _ _ n e) (RSs.kp k r)
  | _, _, .dct n e l r => .dct n (k _ _ n e) l (RSs.kp k r)
  | _, _, .ins n e l r => .ins n (k _ _ n e) l (RSs.kp k r)
theorem RSs.kp {cl : Nat → Addr} {h : Addr} {H H' : Hp} (k : Kp h H H') : ∀ {vs : List V} {ds : List Dt}, Rs cl h H vs ds → Rs cl h H' vs ds
  | _, _, .nil => .nil
  | _, _, .cons r t => .cons (RS.kp k r) (RSs.kp k t)
end
theorem RSs.len {cl : Nat → Addr} {h : Addr} {H : Hp} : ∀ {vs : List V} {ds : List Dt}, Rs cl h H vs ds → vs.length = ds.length
  | _, _, .nil => rfl
  | _, _, .cons _ t => by rw [List.length_cons, List.length_cons, RSs.len t]
theorem RSs.at {cl : Nat → Addr} {h : Addr} {H : Hp} : ∀ {vs : List V} {ds : List Dt} {i : Nat} {d : Dt}, Rs cl h H vs ds → ds[i]? = some d → ∃ v, vs[i]? = some v ∧ R cl h H v d
  | _, _, _, _, .nil, e => by simp at e
  | _, _, 0, _, .cons r _, e => by simp at e; subst e; exact ⟨_, rfl, r⟩
  | _, _, i + 1, d, .cons _ t, e => by
    obtain ⟨v, h1, h2⟩ := RSs.at (i := i) (d := d) t (by simpa using e)
    exact ⟨v, by simpa using h1, h2⟩
theorem RSs.atV {cl : Nat → Addr} {h : Addr} {H : Hp} : ∀ {vs : List V} {ds : List Dt} {i : Nat} {v : V}, Rs cl h H vs ds → vs[i]? = some v → ∃ d, ds[i]? = some d ∧ R cl h H v d
  | _, _, _, _, .nil, e => by simp at e
  | _, _, 0, _, .cons r _, e => by simp at e; subst e; exact ⟨_, rfl, r⟩
  | _, _, i + 1, d, .cons _ t, e => by
    obtain ⟨v, h1, h2⟩ := RSs.atV (i := i) (v := d) t (by simpa using e)
    exact ⟨v, by simpa using h1, h2⟩
theorem RSs.app {cl : Nat → Addr} {h : Addr} {H : Hp} : ∀ {vs ws : List V} {ds es : List Dt}, Rs cl h H vs ds → Rs cl h H ws es → Rs cl h H (vs ++ ws) (ds ++ es)
  | _, _, _, _, .nil, s => s
  | _, _, _, _, .cons r t, s => .cons r (RSs.app t s)
theorem RSs.ints {cl : Nat → Addr} {h : Addr} {H : Hp} : ∀ (l : List Int), Rs cl h H (l.map V.int) (l.map Dt.int)
  | [] => .nil
  | _ :: l => .cons (.int _) (RSs.ints l)

/-! ### the hand of the draws -/
/-- at h the hand: the list of the script's numbers at c, four numbers, none below 0 -/
def Hd (h c : Addr) (H : Hp) : Prop := c ≠ h ∧ ∃ (ns : List Int) (i : Nat) (z g t : Int), H h = some (.lst [.ref c, .int (i : Int), .int z, .int g, .int t]) ∧ H c = some (.lst (ns.map V.int)) ∧ ns.length ≤ 63 ∧ (∀ n ∈ ns, 0 ≤ n) ∧ 0 ≤ z ∧ 0 ≤ g ∧ g < 2147483648 ∧ 0 ≤ t
/-- what calls may do to the heap -/
def Go (h c : Addr) (H H' : Hp) : Prop := Kp h H H' ∧ (Hd h c H → Hd h c H')
theorem Go.refl {h c : Addr} (H : Hp) : Go h c H H := ⟨Kp.refl H, id⟩
theorem Go.trans {h c : Addr} {H H1 H2 : Hp} (a : Go h c H H1) (b : Go h c H1 H2) : Go h c H H2 := ⟨a.1.trans b.1, fun x => b.2 (a.2 x)⟩
theorem Go.kp {h c a : Addr} {H H' : Hp} {o : HO} (g : Go h c H H') (n : a ≠ h) (e : H a = some o) : H' a = some o := g.1 a o n e
theorem Go.r {cl : Nat → Addr} {h c : Addr} {H H' : Hp} {v : V} {d : Dt} (g : Go h c H H') (r : R cl h H v d) : R cl h H' v d := RS.kp g.1 r
theorem Go.rs {cl : Nat → Addr} {h c : Addr} {H H' : Hp} {v : List V} {d : List Dt} (g : Go h c H H') (r : Rs cl h H v d) : Rs cl h H' v d := RSs.kp g.1 r
theorem Hd.some {h c : Addr} {H : Hp} (x : Hd h c H) : ∃ o, H h = some o := by
  obtain ⟨_, _, _, _, _, _, q, _⟩ := x
  exact ⟨_, q⟩
theorem Hd.ne {h c p : Addr} {H : Hp} (x : Hd h c H) (n : H p = none) : p ≠ h := fun e => by
  obtain ⟨o, q⟩ := x.some
  rw [e, q] at n
  cases n
theorem Hd.nec {h c p : Addr} {H : Hp} (x : Hd h c H) (n : H p = none) : p ≠ c := fun e => by
  obtain ⟨_, _, _, _, _, _, _, q, _⟩ := x
  rw [e, q] at n
  cases n
theorem Hd.put {h c p : Addr} {H : Hp} {o : HO} (x : Hd h c H) (n1 : p ≠ h) (n2 : p ≠ c) : Hd h c (upd H p o) := by
  obtain ⟨nc, ns, i, z, g, t, q, r, b⟩ := x
  exact ⟨nc, ns, i, z, g, t, by rw [upd_ne n1.symm]; exact q, by rw [upd_ne n2.symm]; exact r, b⟩
theorem Kp.new {h p : Addr} {H : Hp} {o : HO} (n : H p = none) : Kp h H (upd H p o) := fun a u _ e => by
  rw [upd_ne (ne_of_none e n)]
  exact e
/-- what is new stays unknown to the older heap -/
theorem Go.back {h c p : Addr} {H H' : Hp} (g : Go h c H H') (x : Hd h c H) (n : H' p = none) : H p = none := by
  cases e : H p with
  | none => rfl
  | some o =>
    by_cases q : p = h
    · have y := g.2 x
      rw [q] at n
      obtain ⟨o', z⟩ := y.some
      rw [z] at n
      cases n
    · rw [g.1 p o q e] at n
      cases n
/-- an object that H does not know is made, or changed -/
theorem Go.mut {h c p : Addr} {H H' : Hp} {o : HO} (g : Go h c H H') (x : Hd h c H) (n : H p = none) : Go h c H (upd H' p o) := by
  refine ⟨fun a u na ha => ?_, fun _ => (g.2 x).put (x.ne n) (x.nec n)⟩
  rw [upd_ne (ne_of_none ha n)]
  exact g.1 a u na ha
theorem Go.new {h c p : Addr} {H : Hp} {o : HO} (x : Hd h c H) (n : H p = none) : Go h c H (upd H p o) := (Go.refl H).mut x n
/-- what keeps all -/
theorem Go.same {h c : Addr} {H H' : Hp} (e : Same H H') : Go h c H H' := by
  refine ⟨fun a o _ q => e a o q, fun x => ?_⟩
  obtain ⟨nc, ns, i, z, g, t, q, r, b⟩ := x
  exact ⟨nc, ns, i, z, g, t, e _ _ q, e _ _ r, b⟩

/-! ### one step of a reading -/
section
variable {K : PySem.W.Frag} {σ : L2.St} {H : Hp} {Q : VK} {D : Ends} {t u : TS} {te ta tb tc : TE} {tt tv : TT} {g : TG} {ts tr : TA} {r : R2} {E : XK} {sp : Sp}
theorem z_seq (h : t { D with nx := u D } σ H) : tSeq t u D σ H := h
theorem z_cut (M : L2.St → Hp → Prop) (h : t { D with nx := M } σ H) (k : ∀ σ' H', M σ' H' → u D σ' H') : Evl.tCut t u D σ H := ⟨M, h, k⟩
theorem z_next (h : D.nx σ H) : tNext D σ H := h
theorem z_asgN {i : Nat} (h : te σ H fun x H1 => D.nx (σ.set i (some x)) H1) : tAsg te (gName i) D σ H := h
theorem z_asg (h : te σ H fun x H1 => g x σ H1 D.nx) : tAsg te g D σ H := h
theorem z_gname {i : Nat} {v : V} {q : L2.St → Hp → Prop} (h : q (σ.set i (some v)) H) : gName i v σ H q := h
theorem z_drop (h : te σ H fun _ H1 => D.nx σ H1) : tDrop te D σ H := h
theorem z_ret (h : te σ H D.rt) : tRet te D σ H := h
theorem z_retN (h : D.rt .non H) : tRetN D σ H := h
theorem z_brk (h : D.bk σ H) : tBreak D σ H := h
theorem z_cont (h : D.ct σ H) : tCont D σ H := h
theorem z_if {c : TT} (h : c σ H fun b H1 => if b = true then t D σ H1 else u D σ H1) : tIfS c t u D σ H := h
theorem z_var {i : Nat} {v : V} (e : σ[i]? = some (some v)) (h : Q v H) : tVar i σ H Q := ⟨v, e, h⟩
theorem z_var0 {i : Nat} (h : ∃ v, σ[i]? = some (some v) ∧ Q v H) : tVar i σ H Q := h
theorem z_c {v : V} (h : Q v H) : tC v σ H Q := h
theorem z_op (h : ta σ H fun x H1 => tb σ H1 fun y H2 => r x y H2 Q) : tOp r ta tb σ H Q := h
theorem z_un {r : V → Hp → VK → Prop} (h : ta σ H fun x H1 => r x H1 Q) : tUn r ta σ H Q := h
theorem z_I0 {f : Int → Int → V} {i j : Int} (h : Q (f i j) H) : rI0 f (.int i) (.int j) H Q := ⟨i, j, rfl, rfl, h⟩
theorem z_I {C : Int → Int → Prop} {f : Int → Int → V} {i j : Int} (c : C i j) (h : Q (f i j) H) : rI C f (.int i) (.int j) H Q := ⟨i, j, rfl, rfl, c, h⟩
theorem z_U {f : Int → V} {i : Int} (h : Q (f i) H) : rU f (.int i) H Q := ⟨i, rfl, h⟩
theorem z_eq {x y : V} (s : scal x y = true) (h : Q (.bl (decide (x = y))) H) : rEq x y H Q := ⟨s, h⟩
theorem z_eqI {i j : Int} (h : Q (.bl (decide (i = j))) H) : rEq (.int i) (.int j) H Q := ⟨rfl, by
  have e : decide (V.int i = V.int j) = decide (i = j) := by
    by_cases q : i = j
    · rw [q]; simp
    · rw [decide_eq_false q, decide_eq_false (fun z => q (V.int.inj z))]
  rw [e]
  exact h⟩
theorem z_neI {i j : Int} (h : Q (.bl (!decide (i = j))) H) : rNe (.int i) (.int j) H Q := ⟨rfl, by
  have e : decide (V.int i = V.int j) = decide (i = j) := by
    by_cases q : i = j
    · rw [q]; simp
    · rw [decide_eq_false q, decide_eq_false (fun z => q (V.int.inj z))]
  rw [e]
  exact h⟩
theorem z_ne {x y : V} (s : scal x y = true) (h : Q (.bl (!decide (x = y))) H) : rNe x y H Q := ⟨s, h⟩
theorem z_test {q : Bool → Hp → Prop} (h : te σ H fun x H' => ∃ k, x = .bl k ∧ q k H') : tTest te σ H q := h
theorem z_B {q : Bool → Hp → Prop} (h : te σ H fun x H' => ∃ k, x = .bl k ∧ q k H') : tB te σ H q := h
theorem z_not {q : Bool → Hp → Prop} (h : tt σ H fun c H1 => q (!c) H1) : tNot tt σ H q := h
theorem z_and {q : Bool → Hp → Prop} (h : tt σ H fun c H1 => if c = true then tv σ H1 q else q false H1) : tAnd tt tv σ H q := h
theorem z_or {q : Bool → Hp → Prop} (h : tt σ H fun c H1 => if c = true then q true H1 else tv σ H1 q) : tOr tt tv σ H q := h
theorem z_andV (h : ta σ H fun x H1 => ∃ c, x = .bl c ∧ if c = true then tb σ H1 Q else Q (.bl false) H1) : tAndV ta tb σ H Q := h
theorem z_orV (h : ta σ H fun x H1 => ∃ c, x = .bl c ∧ if c = true then Q (.bl true) H1 else tb σ H1 Q) : tOrV ta tb σ H Q := h
theorem z_notV (h : ta σ H fun x H1 => ∃ c, x = .bl c ∧ Q (.bl (!c)) H1) : tNotV ta σ H Q := h
theorem z_ifE {c : TT} (h : c σ H fun b H1 => if b = true then ta σ H1 Q else tb σ H1 Q) : tIf c ta tb σ H Q := h
theorem z_chain {r r' : R2} (h : ta σ H fun x H1 => tb σ H1 fun y H2 => r x y H2 fun z H3 => ∃ k, z = .bl k ∧ (if k = true then tc σ H3 fun w' H4 => r' y w' H4 Q else Q (.bl false) H3)) : tChain r r' ta tb tc σ H Q := h
theorem z_bl {b : Bool} {q : Bool → Prop} (h : q b) : ∃ k, V.bl b = .bl k ∧ q k := ⟨b, rfl, h⟩
theorem z_nil {q : List V → Hp → Prop} (h : q [] H) : tNil σ H q := h
theorem z_cons {q : List V → Hp → Prop} (h : te σ H fun x H1 => tr σ H1 fun xs H2 => q (x :: xs) H2) : tCons te tr σ H q := h
theorem z_call {dvs : List V} (h : tr σ H fun vs H1 => sp (vs ++ dvs) H1 Q E) : tCall sp dvs E tr σ H Q := h
theorem z_CB {r : List V → Hp → VK → Prop} (h : tr σ H fun vs H1 => r vs H1 Q) : tCB r tr σ H Q := h
theorem z_fld {f : Str} (h : ta σ H fun x H1 => ∃ a C dx fs v, x = .ref a ∧ H1 a = some (.ins C dx fs) ∧ Cls K C ∧ NoAttr K C f ∧ fs.lookup f = some v ∧ Q v H1) : tFld K ta f σ H Q := h
/-- a new tuple, a new list: which heap stands then is forgotten but for what it holds -/
theorem z_tup {h c : Addr} (x : tr σ H fun xs H1 => xs.length ≤ sizeLine ∧ ∀ p, H1 p = none → Q (.ref p) (upd H1 p (.tup xs))) : tTup tr σ H Q := x
theorem z_lst (x : tr σ H fun xs H1 => xs.length ≤ sizeLine ∧ ∀ p, H1 p = none → Q (.ref p) (upd H1 p (.lst xs))) : tLst tr σ H Q := x
theorem z_sl {r : V → Option Int → Option Int → Hp → VK → Prop} {tl th : TO} (x : te σ H fun x H1 => tl σ H1 fun l H2 => th σ H2 fun u H3 => r x l u H3 Q) : tSl r te tl th σ H Q := x
theorem z_noPart {q : Option Int → Hp → Prop} (x : q none H) : tNoPart σ H q := x
theorem z_part {q : Option Int → Hp → Prop} (x : te σ H fun x H1 => ∃ i, x = .int i ∧ q (some i) H1) : tPart te σ H q := x
theorem z_int {i : Int} {q : Int → Prop} (h : q i) : ∃ k, V.int i = .int k ∧ q k := ⟨i, rfl, h⟩
theorem z_ixL {p : Addr} {xs : List V} {i : Int} {v : V} (e : SqL K H p xs) (a : atI xs i = some v) (h : Q v H) : rIxL K (.ref p) (.int i) H Q := ⟨p, xs, i, v, rfl, rfl, e, a, h⟩
theorem z_ixT {p : Addr} {xs : List V} {i : Int} {v : V} (e : SqT K H p xs) (a : atI xs i = some v) (h : Q v H) : rIxT K (.ref p) (.int i) H Q := ⟨p, xs, i, v, rfl, rfl, e, a, h⟩
theorem z_gsub {to ti : TE} {ts : TSet} {v : V} {q : L2.St → Hp → Prop} (h : to σ H fun o H1 => ti σ H1 fun i H2 => ts o i v H2 fun H3 => q σ H3) : gSub to ti ts v σ H q := h
theorem z_setL {p : Addr} {xs : List V} {i : Int} {j : Nat} {v : V} {q : Hp → Prop} (e : H p = some (.lst xs)) (a : ixN xs.length i = some j) (h : q (upd H p (.lst (xs.set j v)))) : rSetL (.ref p) (.int i) v H q := ⟨p, xs, i, j, rfl, rfl, e, a, h⟩
theorem z_lenL {p : Addr} {xs : List V} {r : List V → Hp → VK → Prop} (e : SqL K H p xs) (h : Q (.int xs.length) H) : (∃ p' ys, [V.ref p] = [.ref p'] ∧ (SqL K H p' ys ∨ SqT K H p' ys) ∧ Q (.int ys.length) H) := ⟨p, xs, rfl, .inl e, h⟩
theorem z_lenT {p : Addr} {xs : List V} {r : List V → Hp → VK → Prop} (e : SqT K H p xs) (h : Q (.int xs.length) H) : (∃ p' ys, [V.ref p] = [.ref p'] ∧ (SqL K H p' ys ∨ SqT K H p' ys) ∧ Q (.int ys.length) H) := ⟨p, xs, rfl, .inr e, h⟩
theorem z_intI {i : Int} (h : Q (.int i) H) : (∃ j, [V.int i] = [.int j] ∧ Q (.int j) H) ∨ ∃ k, [V.int i] = [.bl k] ∧ Q (.int (if k then 1 else 0)) H := .inl ⟨i, rfl, h⟩
theorem z_absI {i : Int} (n : 0 ≤ (if i < 0 then -i else i) → Q (.int (if i < 0 then -i else i)) H) : ∃ j, [V.int i] = [.int j] ∧ Q (.int (if j < 0 then -j else j)) H := ⟨i, rfl, n (by split <;> omega)⟩
/-- the two ways of a test -/
theorem z_ite {p A B : Prop} [Decidable p] (h1 : p → A) (h2 : ¬ p → B) : if decide p = true then A else B := by
  by_cases q : p
  · rw [if_pos (decide_eq_true q)]
    exact h1 q
  · rw [if_neg (by simpa using q)]
    exact h2 q
theorem z_iteD {p A B : Prop} [Decidable p] (h1 : ¬ p → A) (h2 : p → B) : if (!decide p) = true then A else B := by
  by_cases q : p
  · rw [decide_eq_true q]
    exact iteF (h2 q)
  · rw [decide_eq_false q]
    exact iteT (h1 q)
theorem z_iteB {b : Bool} {A B : Prop} (h1 : b = true → A) (h2 : b = false → B) : if b = true then A else B := by
  cases b with
  | true => exact h1 rfl
  | false => exact h2 rfl
theorem z_iteN {b : Bool} {A B : Prop} (h1 : b = false → A) (h2 : b = true → B) : if (!b) = true then A else B := by
  cases b with
  | true => exact h2 rfl
  | false => exact h1 rfl
end
theorem z_sf {K : PySem.W.Frag} {ta tv : TE} {f : Str} {D : Ends} {σ : L2.St} {H : Hp} (h : tv σ H fun y H1 => ta σ H1 fun x H2 => ∃ a C dx fs, x = .ref a ∧ H2 a = some (.ins C dx fs) ∧ Cls K C ∧ NoAttr K C f ∧ fs.length < 1000 ∧
    D.nx σ (upd H2 a (.ins C dx (putF f y fs)))) : sFld K ta tv f D σ H := h
theorem RS.int_inv {cl : Nat → Addr} {h : Addr} {H : Hp} {v : V} {i : Int} (r : R cl h H v (.int i)) : v = .int i := by cases r; rfl
theorem RS.str_inv {cl : Nat → Addr} {h : Addr} {H : Hp} {v : V} {i : Str} (r : R cl h H v (.str i)) : v = .str i := by cases r; rfl
theorem RS.tup_inv {cl : Nat → Addr} {h : Addr} {H : Hp} {v : V} {ds : List Dt} (r : R cl h H v (.tup ds)) : ∃ a vs, v = .ref a ∧ a ≠ h ∧ H a = some (.tup vs) ∧ Rs cl h H vs ds := by
  cases r with
  | tup n e s => exact ⟨_, _, rfl, n, e, s⟩
theorem RS.lst_inv {cl : Nat → Addr} {h : Addr} {H : Hp} {v : V} {ds : List Dt} (r : R cl h H v (.lst ds)) : ∃ a vs, v = .ref a ∧ a ≠ h ∧ H a = some (.lst vs) ∧ Rs cl h H vs ds := by
  cases r with
  | lst n e s => exact ⟨_, _, rfl, n, e, s⟩
theorem RS.ins_inv {cl : Nat → Addr} {h : Addr} {H : Hp} {v : V} {c : Nat} {ns : List Str} {ds : List Dt} (r : R cl h H v (.ins c ns ds)) : ∃ a dx vs, v = .ref a ∧ a ≠ h ∧ H a = some (.ins (cl c) dx (ns.zip vs)) ∧ Rs cl h H vs ds ∧ ns.length = vs.length := by
  cases r with
  | ins n e l s => exact ⟨_, _, _, rfl, n, e, s, l⟩
theorem RSs.one {cl : Nat → Addr} {h : Addr} {H : Hp} {vs : List V} {d : Dt} (r : Rs cl h H vs [d]) : ∃ v, vs = [v] ∧ R cl h H v d := by
  cases r with
  | cons r1 t => cases t; exact ⟨_, rfl, r1⟩
theorem RSs.two {cl : Nat → Addr} {h : Addr} {H : Hp} {vs : List V} {d e : Dt} (r : Rs cl h H vs [d, e]) : ∃ v w, vs = [v, w] ∧ R cl h H v d ∧ R cl h H w e := by
  cases r with
  | cons r1 t =>
    obtain ⟨w, rfl, r2⟩ := t.one
    exact ⟨_, _, rfl, r1, r2⟩
theorem RSs.three {cl : Nat → Addr} {h : Addr} {H : Hp} {vs : List V} {d e f : Dt} (r : Rs cl h H vs [d, e, f]) : ∃ v w u, vs = [v, w, u] ∧ R cl h H v d ∧ R cl h H w e ∧ R cl h H u f := by
  cases r with
  | cons r1 t =>
    obtain ⟨w, u, rfl, r2, r3⟩ := t.two
    exact ⟨_, _, _, rfl, r1, r2, r3⟩
theorem RSs.four {cl : Nat → Addr} {h : Addr} {H : Hp} {vs : List V} {d e f g : Dt} (r : Rs cl h H vs [d, e, f, g]) : ∃ v w u z, vs = [v, w, u, z] ∧ R cl h H v d ∧ R cl h H w e ∧ R cl h H u f ∧ R cl h H z g := by
  cases r with
  | cons r1 t =>
    obtain ⟨w, u, z, rfl, r2, r3, r4⟩ := t.three
    exact ⟨_, _, _, _, rfl, r1, r2, r3, r4⟩
theorem lk_fst {f : Str} {v : V} {l : List (Str × V)} : List.lookup f ((f, v) :: l) = some v := by simp [List.lookup]
theorem lk_nxt {f g : Str} {v : V} {l : List (Str × V)} (n : ¬ g = f) : List.lookup g ((f, v) :: l) = List.lookup g l := by
  have e : (g == f) = false := by simpa using n
  simp [List.lookup, e]
/-- a new tuple, a new list of data -/
theorem RS.newT {cl : Nat → Addr} {h c p : Addr} {H : Hp} {vs : List V} {ds : List Dt} (hd : Hd h c H) (n : H p = none) (r : Rs cl h H vs ds) : R cl h (upd H p (.tup vs)) (.ref p) (.tup ds) :=
  .tup (hd.ne n) upd_same (RSs.kp (Kp.new n) r)
theorem RS.newL {cl : Nat → Addr} {h c p : Addr} {H : Hp} {vs : List V} {ds : List Dt} (hd : Hd h c H) (n : H p = none) (r : Rs cl h H vs ds) : R cl h (upd H p (.lst vs)) (.ref p) (.lst ds) :=
  .lst (hd.ne n) upd_same (RSs.kp (Kp.new n) r)
def newT (Q : VK) (xs : List V) (H : Hp) : Prop := xs.length ≤ sizeLine ∧ ∀ p, H p = none → Q (.ref p) (upd H p (.tup xs))
def newL (Q : VK) (xs : List V) (H : Hp) : Prop := xs.length ≤ sizeLine ∧ ∀ p, H p = none → Q (.ref p) (upd H p (.lst xs))
theorem z_tupI {tr : TA} {σ : L2.St} {H : Hp} {Q : VK} (x : tr σ H fun xs H1 => newT Q xs H1) : tTup tr σ H Q := x
theorem z_lstI {tr : TA} {σ : L2.St} {H : Hp} {Q : VK} (x : tr σ H fun xs H1 => newL Q xs H1) : tLst tr σ H Q := x
theorem sz1000 {n : Nat} (h : n ≤ 1000000) : n ≤ sizeLine := Nat.le_trans h (by decide)
theorem z_newT {cl : Nat → Addr} {h c : Addr} {H : Hp} {vs : List V} {ds : List Dt} {Q : VK} (hd : Hd h c H) (rs : Rs cl h H vs ds) (k : ∀ p H', Go h c H H' → H p = none → R cl h H' (.ref p) (.tup ds) → Q (.ref p) H') (l : vs.length ≤ 1000000 := by exact Nat.le_of_ble_eq_true rfl) :
    newT Q vs H := ⟨sz1000 l, fun p n => k p _ (Go.new hd n) n (RS.newT hd n rs)⟩
theorem z_newL {cl : Nat → Addr} {h c : Addr} {H : Hp} {vs : List V} {ds : List Dt} {Q : VK} (hd : Hd h c H) (rs : Rs cl h H vs ds) (k : ∀ p H', Go h c H H' → H p = none → R cl h H' (.ref p) (.lst ds) → Q (.ref p) H') (l : vs.length ≤ 1000000 := by exact Nat.le_of_ble_eq_true rfl) :
    newL Q vs H := ⟨sz1000 l, fun p n => k p _ (Go.new hd n) n (RS.newL hd n rs)⟩
theorem z_newD {cl : Nat → Addr} {h c : Addr} {σ : L2.St} {H : Hp} {Q : VK} (hd : Hd h c H) (k : ∀ p H', Go h c H H' → H p = none → R cl h H' (.ref p) (.dct [] []) → Q (.ref p) H') : tDNewK σ H Q := fun p n =>
  k p _ (Go.new hd n) n (.dct (vs := []) (hd.ne n) upd_same rfl .nil)
theorem z_cat {cl : Nat → Addr} {h c a b : Addr} {H : Hp} {ds es : List Dt} {Q : VK} (hd : Hd h c H) (r1 : R cl h H (.ref a) (.lst ds)) (r2 : R cl h H (.ref b) (.lst es)) (l : ds.length + es.length ≤ 1000000)
    (k : ∀ p H', Go h c H H' → H p = none → R cl h H' (.ref p) (.lst (ds ++ es)) → Q (.ref p) H') : rCat (.ref a) (.ref b) H Q := by
  obtain ⟨_, xs, e, _, ha, s1⟩ := r1.lst_inv
  cases e
  obtain ⟨_, ys, e, _, hb, s2⟩ := r2.lst_inv
  cases e
  refine ⟨a, b, xs, ys, rfl, rfl, ha, hb, sz1000 (by rw [s1.len, s2.len]; exact l), fun p n => k p _ (Go.new hd n) n (RS.newL hd n (s1.app s2))⟩
def newO (C : Addr) (sp : Sp) (E : XK) (Q : VK) (vs : List V) (H : Hp) : Prop := ∀ x dx, H x = none → H dx = none → dx ≠ x → sp (.ref x :: vs) (upd (upd H dx (.own x)) x (.ins C dx [])) (fun v H2 => v = .non ∧ Q (.ref x) H2) E
theorem z_make {C : Addr} {sp : Sp} {E : XK} {tr : TA} {σ : L2.St} {H : Hp} {Q : VK} (h : tr σ H fun vs H1 => newO C sp E Q vs H1) : tMake C sp [] E tr σ H Q := by
  have e : tMake C sp [] E tr σ H Q = (tr σ H fun vs H1 => newO C sp E Q vs H1) := by
    unfold tMake newO
    simp only [List.append_nil]
  rw [e]
  exact h
theorem Go.ins0 {h c x dx : Addr} {H : Hp} {o : HO} (hd : Hd h c H) (nx : H x = none) (nd : H dx = none) : Go h c H (upd (upd H dx (.own x)) x o) := ((Go.refl H).mut hd nd).mut hd nx
theorem Go.ins {h c x dx : Addr} {H : Hp} {o o' : HO} (hd : Hd h c H) (nx : H x = none) (nd : H dx = none) : Go h c H (upd (upd (upd H dx (.own x)) x o) x o') := (Go.ins0 hd nx nd).mut hd nx
theorem RS.newI {cl : Nat → Addr} {h c x dx : Addr} {k : Nat} {ns : List Str} {H : Hp} {o : HO} {vs : List V} {ds : List Dt} (hd : Hd h c H) (nx : H x = none) (nd : H dx = none) (rs : Rs cl h H vs ds) (l : ns.length = vs.length) :
    R cl h (upd (upd (upd H dx (.own x)) x o) x (.ins (cl k) dx (ns.zip vs))) (.ref x) (.ins k ns ds) :=
  .ins (hd.ne nx) upd_same l (RSs.kp (Go.ins (o := o) hd nx nd).1 rs)
theorem z_par {i j : Nat} {ta : TA} {D : Ends} {σ : L2.St} {H : Hp} (h : ta σ H fun vs H1 => ∃ v w, vs = [v, w] ∧ D.nx ((σ.set i (some v)).set j (some w)) H1) : tPar i j ta D σ H := h
theorem z_two {v w : V} {q : V → V → Prop} (h : q v w) : ∃ v' w', [v, w] = [v', w'] ∧ q v' w' := ⟨v, w, rfl, h⟩
theorem z_gcons {t : TG} {u : TGs} {v : V} {r : List V} {σ : L2.St} {H : Hp} {q : L2.St → Hp → Prop} (h : t v σ H fun σ' H' => u r σ' H' q) : gCons t u (v :: r) σ H q := ⟨v, r, rfl, h⟩
theorem z_gnil {σ : L2.St} {H : Hp} {q : L2.St → Hp → Prop} (h : q σ H) : gNil [] σ H q := ⟨rfl, h⟩
theorem z_gtup {K : PySem.W.Frag} {n : Nat} {t : TGs} {a : Addr} {xs : List V} {σ : L2.St} {H : Hp} {q : L2.St → Hp → Prop} (e : H a = some (.tup xs)) (l : xs.length = n) (h : t xs σ H q) : gTup K n t (.ref a) σ H q := ⟨a, xs, rfl, .inl (.inl e), l, h⟩
theorem z_eqS {x y : Str} {H : Hp} {Q : VK} (b : Bool) (e : decide (x = y) = b) (h : Q (.bl b) H) : rEq (.str x) (.str y) H Q := ⟨rfl, by
  have e1 : decide (V.str x = V.str y) = b := by
    rw [← e]
    by_cases q : x = y
    · rw [q]; simp
    · rw [decide_eq_false q, decide_eq_false (fun z => q (V.str.inj z))]
  rw [e1]
  exact h⟩
theorem z_neS {x y : Str} {H : Hp} {Q : VK} (b : Bool) (e : decide (x = y) = !b) (h : Q (.bl b) H) : rNe (.str x) (.str y) H Q := ⟨rfl, by
  have e1 : decide (V.str x = V.str y) = !b := by
    rw [← e]
    by_cases q : x = y
    · rw [q]; simp
    · rw [decide_eq_false q, decide_eq_false (fun z => q (V.str.inj z))]
  rw [e1, Bool.not_not]
  exact h⟩
theorem iteNF {A B : Prop} (h : A) : if (!false) = true then A else B := by
  show if true = true then A else B
  exact iteT h
theorem iteNT {A B : Prop} (h : B) : if (!true) = true then A else B := by
  show if false = true then A else B
  exact iteF h
theorem z_neBs {a b : Bool} {H : Hp} {Q : VK} (e : a = b) (h : Q (.bl false) H) : rNe (.bl a) (.bl b) H Q := ⟨rfl, by
  rw [decide_eq_true (by rw [e])]
  exact h⟩
theorem z_eqBn {a b : Bool} {H : Hp} {Q : VK} (e : a ≠ b) (h : Q (.bl false) H) : rEq (.bl a) (.bl b) H Q := ⟨rfl, by
  rw [decide_eq_false (fun z => e (V.bl.inj z))]
  exact h⟩
/-! ### comprehensions -/
section
variable {K : PySem.W.Frag} {σ : L2.St} {H : Hp} {Q : VK}
theorem z_lc {wi : TI} {g : TG} {tt : TT} {te : TE} {vs : List Nat} (h : wi σ H fun J H1 => ∀ D, H1 D = none → ∃ W : Nat → Nat → Hp → Prop, (∃ m, W 0 m (upd H1 D (.lst []))) ∧ ∀ i m H, W i m H →
    (J.stop i H ∧ Q (.ref D) H) ∨ (J.go i H ∧ ∃ Nx : Hp → Prop, (∀ H', Nx H' → ∃ m', m' < m ∧ W (i + 1) m' H') ∧ ∀ x H', J.yld i H x H' → g x (wipe σ vs) H' fun σ2 H2 => wipe σ2 vs = wipe σ vs ∧ tt σ2 H2 fun b H3 =>
      if b = true then te σ2 H3 fun y H4 => ∃ acc, H4 D = some (.lst acc) ∧ acc.length < sizeLine ∧ Nx (upd H4 D (.lst (acc ++ [y]))) else Nx H3)) : tLc wi g tt te vs σ H Q := h
theorem z_pow {a b n : Int} (c : CPow a b) (e : a ^ b.toNat = n) (h : Q (.int n) H) : rI CPow (fun i j => .int (i ^ j.toNat)) (.int a) (.int b) H Q := ⟨a, b, rfl, rfl, c, by show Q (.int (a ^ b.toNat)) H; rw [e]; exact h⟩
theorem z_for {wi : TI} {g : TG} {tb : TS} {D : Ends} (h : wi σ H fun J H1 => ∃ W : Nat → Nat → L2.St → Hp → Prop, (∃ m, W 0 m σ H1) ∧ ∀ i m σ H, W i m σ H →
    (J.stop i H ∧ D.nx σ H) ∨ (J.go i H ∧ ∃ Nx : L2.St → Hp → Prop, (∀ σ' H', Nx σ' H' → ∃ m', m' < m ∧ W (i + 1) m' σ' H') ∧ ∀ x H', J.yld i H x H' → g x σ H' fun σ2 H2 => tb { D with nx := Nx, ct := Nx, bk := D.nx } σ2 H2)) : tFor wi g tb D σ H := h
theorem z_r1 {ta : TA} {q : It → Hp → Prop} (h : ta σ H fun vs H1 => ∃ j : Int, vs = [.int j] ∧ -(2 ^ 62) ≤ j ∧ j < 2 ^ 62 ∧ q (Itr 0 j.toNat) H1) : iRng1 ta σ H q := h
theorem z_r2 {ta : TA} {q : It → Hp → Prop} (h : ta σ H fun vs H1 => ∃ i j : Int, vs = [.int i, .int j] ∧ (-(2 ^ 62) ≤ i ∧ i < 2 ^ 62 ∧ -(2 ^ 62) ≤ j ∧ j < 2 ^ 62) ∧ q (Itr i (j - i).toNat) H1) : iRng2 ta σ H q := h
theorem z_iL {tl : TE} {q : It → Hp → Prop} (h : tl σ H fun x H1 => ∃ a, x = .ref a ∧ (∃ xs, SqL K H1 a xs) ∧ q (Itl K a) H1) : iList K tl σ H q := h
theorem z_iT {tl : TE} {q : It → Hp → Prop} (h : tl σ H fun x H1 => ∃ a, x = .ref a ∧ (∃ xs, SqT K H1 a xs) ∧ q (Itt K a) H1) : iTup K tl σ H q := h
theorem z_yes {q : Bool → Hp → Prop} (h : q true H) : tYes σ H q := h
theorem z_slL {p : Addr} {xs : List V} {lo hi : Option Int} (e : SqL K H p xs) (h : ∀ p', H p' = none → Q (.ref p') (upd H p' (.lst (cutV xs lo hi)))) : rSlL K (.ref p) lo hi H Q := ⟨p, xs, rfl, e, h⟩
end
theorem SqL.new {K : PySem.W.Frag} {H : Hp} {a p : Addr} {xs : List V} {o : HO} (e : SqL K H a xs) (n : H p = none) : SqL K (upd H p o) a xs := Same.seq (fun b u q => by rw [upd_ne (ne_of_none q n)]; exact q) e
theorem cutV_all {xs : List V} {n : Int} (h : (xs.length : Int) ≤ n) : cutV xs none (some n) = xs := by
  unfold cutV
  have e1 : HT.sIx xs.length 0 none = 0 := rfl
  have e2 : HT.sIx xs.length xs.length (some n) = xs.length := by
    show (if n < 0 then (n + (xs.length : Int)).toNat else min n.toNat xs.length) = xs.length
    rw [if_neg (by omega)]
    omega
  rw [e1, e2]
  simp
theorem take_one {α : Type} {l : List α} {i : Nat} {x : α} (h : l[i]? = some x) : l.take (i + 1) = l.take i ++ [x] := by
  obtain ⟨hi, e⟩ := List.getElem?_eq_some_iff.mp h
  rw [List.take_succ_eq_append_getElem hi, e]
/-- the law's promise -/
def spLaw (K : PySem.W.Frag) : Sp := fun vs H Q _ => ∃ (a : Addr) (ns : List Int), vs = [.ref a] ∧ SqL K H a (ns.map V.int) ∧ ns.length ≤ 63 ∧ ∀ H', Q (.bl true) H'
theorem kd_same {K : PySem.W.Frag} {C : Addr} (h : PySem.W.mroIn K C (.ref C) = some true) : PySem.W.mroIn K C (.ref C) = some (decide (C = C)) := by
  rw [decide_eq_true rfl]
  exact h
theorem kd_other {K : PySem.W.Frag} {C D : Addr} (h : PySem.W.mroIn K C (.ref D) = some false) (s : PySem.W.mroIn K C (.ref C) = some true) : PySem.W.mroIn K C (.ref D) = some (decide (C = D)) := by
  by_cases e : C = D
  · rw [← e, s] at h
    cases h
  · rw [decide_eq_false e]
    exact h
theorem putF_one (f : Str) (v : V) : putF f v [] = [(f, v)] := rfl
theorem putF_more {f g : Str} (v w : V) (l : List (Str × V)) (n : ¬ g = f) : putF f v ((g, w) :: l) = (g, w) :: putF f v l := by
  show (if g = f then _ else _) = _
  rw [if_neg n]
end Zo

namespace Zo
open PySem L2 PySem.Spec PyProof.Rows
section
variable {prog : Program} {w : World} {A : Around} {E : Value → Shared → Prop} {s : Shared} {K : PySem.W.Frag} {x C L f : Addr} {h₀ : Heap} {m : Str → Option Value} {ox : Obj} {od : Option Obj} {b tb : Value}
theorem neEntry {Q : Fin → Shared → Prop} (hu : A.units < cLine) (X : K.In s.heap) (I : PySem.W.InstAt s.heap x ox C od) (hs : PySem.W.findIn K (.ref C) "__eq__" = some (some (.ref f))) (hf : PySem.W.isFn K (.ref f) = true)
    (h : wpAny (model prog w) A (call (.ref f) [.ref x, b]) (fun v s' => ∃ t, v = .bool t ∧ Q (.done (.ret (.bool (!t)))) s') E s) :
    wpAny (model prog w) A (Builtin.«object.__ne__» ⟨[.ref x, b], []⟩) Q E s := by
  unfold Builtin.«object.__ne__»
  repeat (first
    | with_reducible refine wpAny_cRoomFor hu ?_
    | (refine wpAny_bind (m := callSpecialIfBound? (.ref x) (Str.ofString "__eq__") [b])
        (PySem.W.ifBound_K X I hs hf (wpAny_mono h (fun r s' hr => by
          obtain ⟨t, rfl, hq⟩ := hr
          repeat (first | exact hq | exact wpAny_pure hq | exact wpAny_truthy_bool hq | (refine wpAny_bind (m := truthy (.bool _)) (wpAny_truthy_bool ?_)) | wp_step)) fun _ _ e => e)))
    | wp_step)
theorem ifBound_ne {M : Model} {args : List Value} {Q : Option Value → Shared → Prop} (X : K.In s.heap) (I : PySem.W.InstAt s.heap x ox C od) (hs : PySem.W.findIn K (.ref C) "__ne__" = some (some (.builtin "object.__ne__")))
    (h : wpAny M A (call (.builtin "object.__ne__") (.ref x :: args)) (fun v => Q (some v)) E s) : wpAny M A (callSpecialIfBound? (.ref x) "__ne__" args) Q E s := by
  simp only [callSpecialIfBound?, bindSpecialIfBound?]
  refine wpAny_holding (wpAny_bind (wpAny_bind (wpAny_bind (I.type.here ((PySem.W.looks_findIn X hs).here ?_)))))
  refine wpAny_bind (wpAny_askSetting (wpAny_ite ?_))
  have fin : wpAny M A (call (.builtin "object.__ne__") ([.ref x] ++ args) >>= fun v => pure (some v)) Q E s := wpAny_bind (wpAny_mono h (fun v s' h' => wpAny_pure h') fun _ _ h' => h')
  split
  · exact wpAny_bind (wpAny_of_eq (F.cmp_object.ne.bind _) (wpAny_pure (by exact fin)))
  · exact wpAny_tryCatch (wpAny_bind (wpAny_of_eq (F.cmp_object.ne.bind _) (wpAny_pure (by exact fin))))
theorem ne_K {Q : Value → Shared → Prop} (hu : A.units + 1 < cLine) (FR : Fr h₀ L s.heap m) (X₀ : K.In h₀) (I : PySem.W.InstAt s.heap x ox C od) (hb : PySem.W.Looks (model prog w) s.heap (typeOf b) tb) (hn : PySem.W.notFirst K C tb = true)
    (hne : PySem.W.findIn K (.ref C) "__ne__" = some (some (.builtin "object.__ne__"))) (hs : PySem.W.findIn K (.ref C) "__eq__" = some (some (.ref f))) (hf : PySem.W.isFn K (.ref f) = true) (hm : PySem.W.mroIn K C (.type "object") = some true)
    (h : wpAny (model prog w) A.in1 (call (.ref f) [.ref x, b]) (fun v s' => ∃ t, v = .bool t ∧ Q (.bool (!t)) s') E s) : wpAny (model prog w) A (richCompare .NotEq (.ref x) b) Q E s := by
  have X := X₀.keeps FR.keep
  have one : wpAny (model prog w) A (tryCompare (.ref x) "__ne__" b) (fun r s' => ∃ v, r = some v ∧ Q v s') E s := by
    unfold tryCompare
    refine wpAny_bind (ifBound_ne X I hne (wpAny_call (codeAny_call_builtin F.cmp_object.ne.plain F.cmpEntry_ne (PySem.W.check_slot F.cmpKind_ne F.cmpSplit_ne (I.type.andThen (PySem.W.looks_mroIn X hm)) (F.cmpArgs_ne _ _)
      (neEntry (A := A.in1) hu X I hs hf (wpAny_mono h (fun v s' hv => ?_) fun _ _ e => e))))))
    obtain ⟨t, rfl, hq⟩ := hv
    exact ⟨t, rfl, wpAny_pure ⟨_, rfl, hq⟩⟩
  unfold richCompare
  simp only [oneThing_ref]
  refine wpAny_holding (wpAny_bind (wpAny_cRoomFor (Nat.lt_of_succ_lt hu) ?_))
  rw [cmpInfo_NotEq]
  dsimp only
  refine wpAny_bind (I.type.here (wpAny_bind (hb.here ?_)))
  split
  · rename_i q
    have e : PySem.W.subIn K tb (.ref C) = some false := by
      rcases Bool.or_eq_true_iff.mp hn with e | e
      · rw [beq_iff_eq.mp e] at q; simp at q
      · exact beq_iff_eq.mp e
    refine wpAny_bind ((PySem.W.looks_subIn X e).here ?_)
    simp only [Bool.false_eq_true, if_false]
    refine wpAny_bind (wpAny_mono one (fun r s' z => ?_) fun _ _ e => e)
    obtain ⟨v, rfl, hq⟩ := z
    exact wpAny_pure hq
  · refine wpAny_bind (wpAny_pure ?_)
    simp only [Bool.false_eq_true, if_false]
    refine wpAny_bind (wpAny_mono one (fun r s' z => ?_) fun _ _ e => e)
    obtain ⟨v, rfl, hq⟩ := z
    exact wpAny_pure hq
end
/-- x == y, x != y: x an instance of the class at C whose own == keeps sp -/
def rEqO (K : PySem.W.Frag) (C : Addr) (sp : Sp) (E : XK) : R2 := fun x y H Q => ∃ a dx fs t, x = .ref a ∧ H a = some (.ins C dx fs) ∧ TyX K H y t ∧ PySem.W.notFirst K C t = true ∧ sp [x, y] H Q E
def rNeO (K : PySem.W.Frag) (C : Addr) (sp : Sp) (E : XK) : R2 := fun x y H Q => ∃ a dx fs t, x = .ref a ∧ H a = some (.ins C dx fs) ∧ TyX K H y t ∧ PySem.W.notFirst K C t = true ∧ sp [x, y] H (fun z H' => ∃ c, z = .bl c ∧ Q (.bl (!c)) H') E
section
variable {X : Cx} {CX : CXT} {k : Nat} {C f : Addr} {fd : FuncData} {ps : List Str} {sp : Sp} {E : XK}
theorem op_eqO (F1 : FnOk X.prog X.w X.K X.mg X.base CX k f fd ps sp) (hr : Room k X.A) (hs : PySem.W.findIn X.K (.ref C) "__eq__" = some (some (.ref f))) (hf : PySem.W.isFn X.K (.ref f) = true) (hb : Binds X.K fd ps []) (hx : Passes CX X E) :
    OpR X (compareOp .Eq) (rEqO X.K C sp E) := by
  intro pins s σ H x y v u Q I rx ry h
  obtain ⟨a, dx, fs, t, rfl, ha, ty, hn, h⟩ := h
  cases rx
  obtain ⟨P, kx, p, _⟩ := kit_of I ry ty
  obtain ⟨mA, J, _⟩ := ins_get I.hok ha
  obtain ⟨od, J, _⟩ := J.look
  obtain ⟨m, hF⟩ := I.fr
  show wpAny _ _ (richCompare .Eq _ _) _ _ _
  refine PySem.W.cmp_K (op := .Eq) (tb := t) hr.units0 hF I.ok.mod.kin J (kx.ty _ _ I.kIn p) hn hs hf ?_
  have hl := F1.len _ _ _ _ h
  refine wpAny_call (codeAny_mono (F1.run X.A X.stack s H ⟨[.ref a, u], []⟩ [.ref a, u] [.ref a, y] Q E hr I.env0 (by
    have := hb s [.ref a, u] I.kIn (by simpa using hl)
    simpa using this) (.cons rfl (.cons ry .nil)) h) fun r s' hq => ?_)
  cases r with
  | error e => exact hx pins σ H s e s' I hq
  | ok fl =>
    cases fl with
    | ret w =>
      obtain ⟨z, H', I', rz, q⟩ := I.after hq
      cases z with
      | non => cases (show w = Value.none from rz); exact ⟨.non, H', I', rfl, q⟩
      | bl c => cases (show w = Value.bool c from rz); exact ⟨.bl c, H', I', rfl, q⟩
      | int i => obtain ⟨t, e⟩ := (show ∃ t, w = Value.int i t from rz); cases e; exact ⟨.int i, H', I', ⟨_, rfl⟩, q⟩
      | str x => obtain ⟨t, e⟩ := (show ∃ t, w = Value.str x t from rz); cases e; exact ⟨.str x, H', I', ⟨_, rfl⟩, q⟩
      | byt x => obtain ⟨t, e⟩ := (show ∃ t, w = Value.bytes x t from rz); cases e; exact ⟨.byt x, H', I', ⟨_, rfl⟩, q⟩
      | flt x => obtain ⟨t, e⟩ := (show ∃ t, w = Value.float x t from rz); cases e; exact ⟨.flt x, H', I', ⟨_, rfl⟩, q⟩
      | ref a => cases (show w = Value.ref a from rz); exact ⟨.ref a, H', I', rfl, q⟩
      | ty n => cases (show w = Value.type n from rz); exact ⟨.ty n, H', I', rfl, q⟩
    | next => exact False.elim hq
    | brk => exact False.elim hq
    | cont => exact False.elim hq
theorem op_neO (F1 : FnOk X.prog X.w X.K X.mg X.base CX k f fd ps sp) (hr : Room (k + 1) X.A) (hne : PySem.W.findIn X.K (.ref C) "__ne__" = some (some (.builtin "object.__ne__"))) (hs : PySem.W.findIn X.K (.ref C) "__eq__" = some (some (.ref f))) (hf : PySem.W.isFn X.K (.ref f) = true)
    (hm : PySem.W.mroIn X.K C (.type "object") = some true) (hb : Binds X.K fd ps []) (hx : Passes CX X E) :
    OpR X (compareOp .NotEq) (rNeO X.K C sp E) := by
  intro pins s σ H x y v u Q I rx ry h
  obtain ⟨a, dx, fs, t, rfl, ha, ty, hn, h⟩ := h
  cases rx
  obtain ⟨P, kx, p, _⟩ := kit_of I ry ty
  obtain ⟨mA, J, _⟩ := ins_get I.hok ha
  obtain ⟨od, J, _⟩ := J.look
  obtain ⟨m, hF⟩ := I.fr
  show wpAny _ _ (richCompare .NotEq _ _) _ _ _
  refine ne_K (tb := t) (by have := hr.un; omega) hF I.ok.mod.kin J (kx.ty _ _ I.kIn p) hn hne hs hf hm ?_
  have hl := F1.len _ _ _ _ h
  refine wpAny_call (codeAny_mono (F1.run X.A.in1 X.stack s H ⟨[.ref a, u], []⟩ [.ref a, u] [.ref a, y] _ E hr.in1 I.env0.in1 (by
    have := hb s [.ref a, u] I.kIn (by simpa using hl)
    simpa using this) (.cons rfl (.cons ry .nil)) h) fun r s' hq => ?_)
  cases r with
  | error e => exact hx pins σ H s e s' I hq
  | ok fl =>
    cases fl with
    | ret w =>
      obtain ⟨z, H', I', rz, c, rfl, q⟩ := I.after hq
      cases (show w = Value.bool c from rz)
      exact ⟨c, rfl, .bl (!c), H', I', rfl, q⟩
    | next => exact False.elim hq
    | brk => exact False.elim hq
    | cont => exact False.elim hq
end
end Zo

namespace Zo
open PySem L2 PySem.Spec PyProof.Rows
/-! ### what the top says of a class of one's own -/
structure Kit (K : PySem.W.Frag) (C : Addr) : Prop where
  cl : Cls K C
  ha : PySem.W.findIn K (.ref C) "__class__" = some (some (.builtin "object.__class__"))
  hn : PySem.W.specialIn K (.builtin "object.__class__") "__get__" = some (some (.builtin "getset_descriptor.__get__"))
  ht : PySem.W.takesIn K (.builtin "object.__class__") = some true
  hm : PySem.W.mroIn K C (.type "object") = some true
  ic : PySem.W.isClsIn K C = true
  ty : PySem.W.typeIn K (.ref C) = some (.type "type")
  mi : PySem.W.mroIn K C (.type "int") = some false
  mb : PySem.W.mroIn K C (.type "bool") = some false
  ms : PySem.W.mroIn K C (.type "str") = some false
  ml : PySem.W.mroIn K C (.type "list") = some false
  mt : PySem.W.mroIn K C (.type "tuple") = some false
  md : PySem.W.mroIn K C (.type "dict") = some false
theorem Kit.some {K : PySem.W.Frag} {C : Addr} (k : Kit K C) : (PySem.W.clsIn K C).isSome = true := k.ic
theorem kit_ot {K : PySem.W.Frag} {C : Addr} {b : String} (hb : PySem.W.kitMeta b = true) {r : Bool} (h : PySem.W.mroIn K C (.type b) = some r) : PySem.W.kitOne K (.ref C) (.type b) = some r := by
  show (if ((Value.ref C == Value.type b) = true) then some true else (if PySem.W.kitMeta b = true then PySem.W.subIn K (.ref C) (.type b) else none)) = some r
  rw [if_neg (by simp), if_pos hb]
  exact h
theorem kit_to {K : PySem.W.Frag} {C : Addr} {a : String} {l : List Value} (k : Kit K C) (e : fastBuiltinMro a = some l) (hl : l.contains (.ref C) = false) : PySem.W.kitOne K (.type a) (.ref C) = some false := by
  show (if ((Value.type a == Value.ref C) = true) then some true else (if ((PySem.W.clsIn K C).isSome && PySem.W.typeIn K (.ref C) == some (.type "type")) = true then (fastBuiltinMro a).map (·.contains (.ref C)) else none)) = some false
  rw [if_neg (by simp), if_pos (by rw [k.some, k.ty]; rfl), e]
  exact congrArg some hl
theorem nf_to {K : PySem.W.Frag} {C : Addr} {a : String} {l : List Value} (e : fastBuiltinMro a = some l) (hl : l.contains (.ref C) = false) : PySem.W.notFirst K C (.type a) = true := by
  have h : PySem.W.subIn K (.type a) (.ref C) = some false := by
    show (fastBuiltinMro a).map (·.contains (.ref C)) = some false
    rw [e]
    exact congrArg some hl
  unfold PySem.W.notFirst
  rw [h]
  simp
theorem nf_self {K : PySem.W.Frag} {C : Addr} : PySem.W.notFirst K C (.ref C) = true := by
  unfold PySem.W.notFirst
  simp
/-- the name of a datum's type, where it is a built-in one -/
def Dt.ty : Dt → Option String
  | .non => some "NoneType"
  | .bl _ => some "bool"
  | .int _ => some "int"
  | .str _ => some "str"
  | .tup _ => some "tuple"
  | .lst _ => some "list"
  | .dct _ _ => some "dict"
  | .ins _ _ _ => none
/-- the type as a value -/
def Dt.tyV (cl : Nat → Addr) : Dt → Value
  | .non => .type "NoneType"
  | .bl _ => .type "bool"
  | .int _ => .type "int"
  | .str _ => .type "str"
  | .tup _ => .type "tuple"
  | .lst _ => .type "list"
  | .dct _ _ => .type "dict"
  | .ins c _ _ => .ref (cl c)
def Dt.isI : Dt → Bool | .int _ => true | .bl _ => true | _ => false
def Dt.isB : Dt → Bool | .bl _ => true | _ => false
def Dt.isS : Dt → Bool | .str _ => true | _ => false
def Dt.isT : Dt → Bool | .tup _ => true | _ => false
def Dt.isL : Dt → Bool | .lst _ => true | _ => false
def Dt.isD : Dt → Bool | .dct _ _ => true | _ => false
def Dt.isO (cl : Nat → Addr) (C : Addr) : Dt → Bool | .ins c _ _ => decide (cl c = C) | _ => false
/-- an int that is no flag -/
def Dt.isN : Dt → Bool | .int _ => true | _ => false
theorem Dt.isN_eq (d : Dt) : d.isN = (d.isI && !d.isB) := by cases d <;> rfl
/-- an int from a to b -/
def Dt.bet (a b : Int) : Dt → Bool | .int i => decide (a ≤ i) && decide (i ≤ b) | _ => false
/-- an int from a on -/
def Dt.frm (a : Int) : Dt → Bool | .int i => decide (a ≤ i) | _ => false
theorem Dt.of_isN {d : Dt} (h : d.isN = true) : ∃ i, d = .int i := by
  cases d with
  | int i => exact ⟨i, rfl⟩
  | _ => exact Bool.noConfusion h
abbrev Dt.hou (f r : Int) : Dt := .ins 0 ["floors", "room"] [.int f, .int r]
structure Kits (K : PySem.W.Frag) (cl : Nat → Addr) : Prop where
  kit : ∀ c, Kit K (cl c)
  two : ∀ c d, PySem.W.mroIn K (cl c) (.ref (cl d)) = some (decide (cl c = cl d))
theorem RS.ty {K : PySem.W.Frag} {cl : Nat → Addr} {h : Addr} {H : Hp} {v : V} {d : Dt} (k : Kits K cl) (r : R cl h H v d) : TyX K H v (d.tyV cl) := by
  cases r with
  | non => exact .base .non
  | bl b => exact .base (.bl b)
  | int i => exact .base (.int i)
  | str x => exact .base (.str x)
  | tup n e r => exact .base (.tup e)
  | lst n e r => exact .base (.lst e)
  | dct n e l r => exact .base (.dK e)
  | @ins a dx c ns vs ds n e l r => exact .base (.ins e (k.kit c).cl (k.kit c).ha (k.kit c).hn (k.kit c).ht (k.kit c).hm)
theorem bm_non : fastBuiltinMro "NoneType" = some [.type "NoneType", .type "object"] := by decide +kernel
theorem bm_int : fastBuiltinMro "int" = some [.type "int", .type "object"] := by decide +kernel
theorem bm_bool : fastBuiltinMro "bool" = some [.type "bool", .type "int", .type "object"] := by decide +kernel
theorem bm_str : fastBuiltinMro "str" = some [.type "str", .type "object"] := by decide +kernel
theorem bm_list : fastBuiltinMro "list" = some [.type "list", .type "object"] := by decide +kernel
theorem bm_tup : fastBuiltinMro "tuple" = some [.type "tuple", .type "object"] := by decide +kernel
theorem bm_dict : fastBuiltinMro "dict" = some [.type "dict", .type "object"] := by decide +kernel
section
variable {K : PySem.W.Frag} {cl : Nat → Addr} {h : Addr} {H : Hp} {v : V} {d : Dt} {Q : VK}
theorem isi_int (k : Kits K cl) (r : R cl h H v d) (q : Q (.bl d.isI) H) : rIsi K [v, .ty "int"] H Q := by
  refine ⟨v, .ty "int", d.tyV cl, .type "int", d.isI, rfl, .ty _, r.ty k, ?_, q⟩
  cases d <;> first | exact kit_ty (r := true) (by decide +kernel) | exact kit_ty (r := false) (by decide +kernel) | exact kit_ot (by decide +kernel) (k.kit _).mi
theorem isi_bool (k : Kits K cl) (r : R cl h H v d) (q : Q (.bl d.isB) H) : rIsi K [v, .ty "bool"] H Q := by
  refine ⟨v, .ty "bool", d.tyV cl, .type "bool", d.isB, rfl, .ty _, r.ty k, ?_, q⟩
  cases d <;> first | exact kit_ty (r := true) (by decide +kernel) | exact kit_ty (r := false) (by decide +kernel) | exact kit_ot (by decide +kernel) (k.kit _).mb
theorem isi_boolI {i : Int} (q : Q (.bl false) H) : rIsi K [.int i, .ty "bool"] H Q := ⟨.int i, .ty "bool", .type "int", .type "bool", false, rfl, .ty _, .base (.int i), kit_ty (by decide +kernel), q⟩
theorem isi_str (k : Kits K cl) (r : R cl h H v d) (q : Q (.bl d.isS) H) : rIsi K [v, .ty "str"] H Q := by
  refine ⟨v, .ty "str", d.tyV cl, .type "str", d.isS, rfl, .ty _, r.ty k, ?_, q⟩
  cases d <;> first | exact kit_ty (r := true) (by decide +kernel) | exact kit_ty (r := false) (by decide +kernel) | exact kit_ot (by decide +kernel) (k.kit _).ms
theorem isi_tup (k : Kits K cl) (r : R cl h H v d) (q : Q (.bl d.isT) H) : rIsi K [v, .ty "tuple"] H Q := by
  refine ⟨v, .ty "tuple", d.tyV cl, .type "tuple", d.isT, rfl, .ty _, r.ty k, ?_, q⟩
  cases d <;> first | exact kit_ty (r := true) (by decide +kernel) | exact kit_ty (r := false) (by decide +kernel) | exact kit_ot (by decide +kernel) (k.kit _).mt
theorem isi_list (k : Kits K cl) (r : R cl h H v d) (q : Q (.bl d.isL) H) : rIsi K [v, .ty "list"] H Q := by
  refine ⟨v, .ty "list", d.tyV cl, .type "list", d.isL, rfl, .ty _, r.ty k, ?_, q⟩
  cases d <;> first | exact kit_ty (r := true) (by decide +kernel) | exact kit_ty (r := false) (by decide +kernel) | exact kit_ot (by decide +kernel) (k.kit _).ml
theorem isi_dict (k : Kits K cl) (r : R cl h H v d) (q : Q (.bl d.isD) H) : rIsi K [v, .ty "dict"] H Q := by
  refine ⟨v, .ty "dict", d.tyV cl, .type "dict", d.isD, rfl, .ty _, r.ty k, ?_, q⟩
  cases d <;> first | exact kit_ty (r := true) (by decide +kernel) | exact kit_ty (r := false) (by decide +kernel) | exact kit_ot (by decide +kernel) (k.kit _).md
theorem kit_oo {c d : Nat} (k : Kits K cl) : PySem.W.kitOne K (.ref (cl c)) (.ref (cl d)) = some (decide (cl c = cl d)) := by
  by_cases e : cl c = cl d
  · rw [e, decide_eq_true rfl]
    show (if ((Value.ref (cl d) == Value.ref (cl d)) = true) then some true else _) = some true
    rw [if_pos (by simp)]
  · show (if ((Value.ref (cl c) == Value.ref (cl d)) = true) then some true else (if ((PySem.W.clsIn K (cl d)).isSome && PySem.W.typeIn K (.ref (cl d)) == some (.type "type")) = true then PySem.W.mroIn K (cl c) (.ref (cl d)) else none)) = _
    rw [if_neg (by simpa using e), if_pos (by rw [(k.kit d).some, (k.kit d).ty]; rfl)]
    exact k.two c d
theorem isi_own {c : Nat} (k : Kits K cl) (r : R cl h H v d) (q : Q (.bl (d.isO cl (cl c))) H) : rIsi K [v, .ref (cl c)] H Q := by
  refine ⟨v, .ref (cl c), d.tyV cl, .ref (cl c), d.isO cl (cl c), rfl, .own _, r.ty k, ?_, q⟩
  cases d with
  | non => exact kit_to (k.kit c) bm_non rfl
  | bl b => exact kit_to (k.kit c) bm_bool rfl
  | int b => exact kit_to (k.kit c) bm_int rfl
  | str b => exact kit_to (k.kit c) bm_str rfl
  | tup b => exact kit_to (k.kit c) bm_tup rfl
  | lst b => exact kit_to (k.kit c) bm_list rfl
  | dct b l => exact kit_to (k.kit c) bm_dict rfl
  | ins c' ns l => exact kit_oo k
/-- whatever stands on the right of an own == comes behind -/
theorem RS.nf {c : Nat} (k : Kits K cl) (r : R cl h H v d) : PySem.W.notFirst K (cl c) (d.tyV cl) = true := by
  cases d with
  | non => exact nf_to bm_non rfl
  | bl b => exact nf_to bm_bool rfl
  | int b => exact nf_to bm_int rfl
  | str b => exact nf_to bm_str rfl
  | tup b => exact nf_to bm_tup rfl
  | lst b => exact nf_to bm_list rfl
  | dct b l => exact nf_to bm_dict rfl
  | ins c' ns l =>
    show PySem.W.notFirst K (cl c) (.ref (cl c')) = true
    unfold PySem.W.notFirst
    by_cases e : cl c' = cl c
    · rw [e]
      simp
    · have h : PySem.W.subIn K (.ref (cl c')) (.ref (cl c)) = some false := by
        show PySem.W.mroIn K (cl c') (.ref (cl c)) = some false
        rw [k.two, decide_eq_false e]
      rw [h]
      simp
end
/-- a computed int of the module by its name -/
theorem pe_gi {X : Cx} {x : Str} {i : Int} {pos : Pos} (hg : Gl X x) (hm : ∃ t, X.mg x = some (.int i t)) (hd : (x == ("__debug__" : Str)) = false := by decide) (hcd : (x == ("__classdict__" : Str)) = false := by decide) : PE X (.Name x pos) (tC (.int i)) := by
  obtain ⟨t, e⟩ := hm
  exact pe_glob hg e ⟨t, rfl⟩ hd
end Zo

namespace Zo
open PySem L2 PySem.Spec PyProof.Rows
/-! ### an object made where what its __init__ raises is wished at the slots -/
def tMakeS (C : Addr) (sp : Sp) (E : L2.St → XK) (t : TA) : TE := fun σ H Q => t σ H fun vs H1 => ∀ x dx, H1 x = none → H1 dx = none → dx ≠ x →
  sp (.ref x :: vs) (upd (upd H1 dx (.own x)) x (.ins C dx [])) (fun v H2 => v = .non ∧ Q (.ref x) H2) (E σ)
section
variable {X : Cx} {CX : CXT} {k : Nat} {f C : Addr} {fd : FuncData} {ps : List Str} {sp : Sp} {E : L2.St → XK} {x : Str} {p pos : Pos} {e : Expr} {es : List Expr} {t : TA}
theorem run_makeS {pins : List (Addr × Obj)} {σ : L2.St} {H : Hp} {s : Shared} {Q : VK} {us : List Value} {vs : List V} (M : Mk X.K C f) (F1 : FnOk X.prog X.w X.K X.mg X.base CX k f fd ps sp) (hr : Room (k + 1) X.A) (hb : Binds X.K fd ps [])
    (hx : ∀ (pins : List (Addr × Obj)) (H : Hp) (s : Shared) (e : Value) (s' : Shared), Inv X pins σ H s → CX X.stack H s (E σ) e s' → X.xe e s') (I : Inv X pins σ H s) (r : Vals vs us)
    (h : ∀ x dx, H x = none → H dx = none → dx ≠ x → sp (.ref x :: vs) (upd (upd H dx (.own x)) x (.ins C dx [])) (fun v H2 => v = .non ∧ Q (.ref x) H2) (E σ)) :
    wpAny (model X.prog X.w) X.A (call (.ref C) us) (EP X pins σ Q) X.xe s := by
  have new := h (s.heap.objs.size + 1) s.heap.objs.size (I.hok.fresh (Nat.le_succ _)) (I.hok.fresh (Nat.le_refl _)) (Nat.ne_of_lt (Nat.lt_succ_self _))
  have J := Inv.made (C := C) I
  have rr : Vals (V.ref (s.heap.objs.size + 1) :: vs) (Value.ref (s.heap.objs.size + 1) :: us) := .cons rfl r
  have hlen : (Value.ref (s.heap.objs.size + 1) :: us).length = ps.length := rr.length.symm.trans (F1.len _ _ _ _ new)
  have bd := hb _ (Value.ref (s.heap.objs.size + 1) :: us) J.kIn (by rw [List.append_nil]; exact hlen)
  rw [List.append_nil] at bd
  refine wpAny_call (make_map (f := f) I.kIn M.makes M.init (beq_iff_eq.mp M.fn) (codeAny_mono (F1.run _ X.stack _ _ ⟨Value.ref (s.heap.objs.size + 1) :: us, []⟩ _ _ _ (E σ) (hr.make C us []) (J.env0.make C us []) bd rr new) fun r s' q => ?_))
  cases r with
  | error e => exact hx pins _ _ e s' J q
  | ok fl =>
    cases fl with
    | ret u =>
      obtain ⟨v, H', I3, rv, ev, q3⟩ := J.after q
      subst ev
      exact ⟨rv, ⟨.ref (s.heap.objs.size + 1), H', I3, rfl, q3⟩⟩
    | next => exact q.elim
    | brk => exact q.elim
    | cont => exact q.elim
theorem pe_makeS (M : Mk X.K C f) (F1 : FnOk X.prog X.w X.K X.mg X.base CX k f fd ps sp) (hr : Room (k + 1) X.A) (hg : Gl X x) (hm : X.mg x = some (.ref C)) (hb : Binds X.K fd ps [])
    (hx : ∀ σ, ∀ (pins : List (Addr × Obj)) (H : Hp) (s : Shared) (e : Value) (s' : Shared), Inv X pins σ H s → CX X.stack H s (E σ) e s' → X.xe e s')
    (ha : PA X (e :: es) t) (hdb : (x == ("__debug__" : Str)) = false := by decide) (he : starEach (e :: es) X.env = (false, eval e X.env) :: starEach es X.env := by rfl) (hpl : (backTo pos (starEach es X.env)).any (·.1) = false := by rfl) :
    PE X (.Call (.Name x p) (e :: es) [] pos) (tMakeS C sp E t) := by
  refine ⟨fun pins s σ H Q I h => ?_⟩
  refine wpAny_Call_Name_kw (ld_glob I hg hm ?_ hdb)
  exact PySem.W.callWith_K (h₀ := X.base) I.ok.mod.kin M.kp (thn (ha.run pos pins s σ H _ I h) fun us s1 ⟨vs, H1, J, r, q⟩ => ⟨J.kIn, run_makeS M F1 hr hb (hx σ) J r q⟩) he hpl
end
theorem z_makeS {C : Addr} {sp : Sp} {E : L2.St → XK} {tr : TA} {σ : L2.St} {H : Hp} {Q : VK} (h : tr σ H fun vs H1 => newO C sp (E σ) Q vs H1) : tMakeS C sp E tr σ H Q := h
theorem z_callS {sp : Sp} {E : L2.St → XK} {tr : TA} {σ : L2.St} {H : Hp} {Q : VK} (h : tr σ H fun vs H1 => sp vs H1 Q (E σ)) : tCallS sp E tr σ H Q := h
theorem z_xf {a : Addr} {cls : Value} {d : Option Addr} {C : Addr} {f : Str} {te : TE} {σ : L2.St} {H : Hp} {Q : VK} (h : te σ H fun x H1 => x = .ref a ∧ cls = .ref C ∧ ∃ (dd : Addr) (fs : List (Str × V)) (v : V), d = some dd ∧ H1 dd = some (.xd fs) ∧ fs.lookup f = some v ∧ Q v H1) : tXf a cls d C f te σ H Q := h
theorem z_eqO {K : PySem.W.Frag} {cl : Nat → Addr} {h : Addr} {H : Hp} {x y : V} {c : Nat} {ns : List Str} {ds : List Dt} {d : Dt} {sp : Sp} {E : XK} {Q : VK} (k : Kits K cl) (rx : R cl h H x (.ins c ns ds)) (ry : R cl h H y d) (q : sp [x, y] H Q E) : rEqO K (cl c) sp E x y H Q := by
  have t := ry.ty k
  have n := RS.nf (c := c) k ry
  obtain ⟨a, dx, vs, rfl, _, e, _⟩ := rx.ins_inv
  exact ⟨a, dx, _, _, rfl, e, t, n, q⟩
theorem z_neO {K : PySem.W.Frag} {cl : Nat → Addr} {h : Addr} {H : Hp} {x y : V} {c : Nat} {ns : List Str} {ds : List Dt} {d : Dt} {sp : Sp} {E : XK} {Q : VK} (k : Kits K cl) (rx : R cl h H x (.ins c ns ds)) (ry : R cl h H y d)
    (q : sp [x, y] H (fun z H' => ∃ c, z = .bl c ∧ Q (.bl (!c)) H') E) : rNeO K (cl c) sp E x y H Q := by
  have t := ry.ty k
  have n := RS.nf (c := c) k ry
  obtain ⟨a, dx, vs, rfl, _, e, _⟩ := rx.ins_inv
  exact ⟨a, dx, _, _, rfl, e, t, n, q⟩
/-! ### errors with one field -/
def spX1 (K : PySem.W.Frag) (C : Addr) (f : Str) : Sp := fun vs H Q _ => ∃ (a : Addr) (v : V), vs = [.ref a, v] ∧ OexC K C ∧ PySem.W.findIn K (.ref C) f = some none ∧ H a = some (exo a C none) ∧
  ∀ dx, H dx = none → dx ≠ a → Q .non (upd (upd H dx (exd dx [(f, v)])) a (exo a C (some dx)))
theorem z_ost {K : PySem.W.Frag} {C a : Addr} {f : Str} {v : V} {D : Ends} {σ : L2.St} {H : Hp} (e0 : σ[0]? = some (some (.ref a))) (e1 : σ[1]? = some (some v)) (T : OexC K C) (no : PySem.W.findIn K (.ref C) f = some none) (ha : H a = some (exo a C none))
    (k : ∀ dx, H dx = none → dx ≠ a → D.nx σ (upd (upd H dx (exd dx [(f, v)])) a (exo a C (some dx)))) : tOst K f (tVar 0) (tVar 1) D σ H :=
  ⟨v, e1, _, e0, a, C, rfl, T, no, .inl ⟨ha, k⟩⟩
/-- C(v), as it is raised -/
theorem z_raise1 {K : PySem.W.Frag} {C : Addr} {f : Str} {ta : TA} {v : V} {σ : L2.St} {H : Hp} {Q : XK} (T : OexC K C) (no : PySem.W.findIn K (.ref C) f = some none)
    (h : ta σ H fun vs H1 => ∃ v, vs = [v] ∧ ∀ d, H1 d = none → Q (.ref C) (some d) (upd H1 d (.xd [(f, v)]))) (mono : ∀ Q1 Q2 : List V → Hp → Prop, (∀ vs H, Q1 vs H → Q2 vs H) → ta σ H Q1 → ta σ H Q2) : tMkO C (spX1 K C f) [] ta σ H Q := by
  refine mono _ _ (fun vs H1 z => ?_) h
  obtain ⟨v, rfl, k⟩ := z
  refine ⟨Nat.succ_le_succ (Nat.zero_le _), fun a na => ⟨a, v, rfl, T, no, upd_same, fun dx nd ne => ⟨rfl, dx, [(f, v)], upd_same, ?_, ?_, ?_⟩⟩⟩
  · rw [upd_ne ne, upd_same]
  · rw [upd_ne ne] at nd
    exact nd
  · have nd1 : H1 dx = none := by
      rw [upd_ne ne] at nd
      exact nd
    have q := k dx nd1
    have e : upd (del (upd (upd (upd H1 a (exo a C none)) dx (exd dx [(f, v)])) a (exo a C (some dx))) a) dx (.xd [(f, v)]) = upd H1 dx (.xd [(f, v)]) := by
      funext b
      by_cases hb : b = dx
      · rw [hb, upd_same, upd_same]
      · rw [upd_ne hb, upd_ne hb]
        by_cases hc : b = a
        · rw [hc, del_same, na]
        · rw [del_ne hc, upd_ne hc, upd_ne hb, upd_ne hc]
    rw [e]
    exact q
/-- a constant alone -/
theorem z_raiseC {K : PySem.W.Frag} {C : Addr} {f : Str} {v : V} {σ : L2.St} {H : Hp} {Q : XK} (T : OexC K C) (no : PySem.W.findIn K (.ref C) f = some none) (h : ∀ d, H d = none → Q (.ref C) (some d) (upd H d (.xd [(f, v)]))) :
    tMkO C (spX1 K C f) [] (tCons (tC v) tNil) σ H Q := z_raise1 (v := v) T no ⟨v, rfl, h⟩ fun _ _ g q => g _ _ q
/-- a slot alone -/
theorem z_raiseV {K : PySem.W.Frag} {C : Addr} {f : Str} {v : V} {i : Nat} {σ : L2.St} {H : Hp} {Q : XK} (T : OexC K C) (no : PySem.W.findIn K (.ref C) f = some none) (e : σ[i]? = some (some v)) (h : ∀ d, H d = none → Q (.ref C) (some d) (upd H d (.xd [(f, v)]))) :
    tMkO C (spX1 K C f) [] (tCons (tVar i) tNil) σ H Q := z_raise1 (v := v) T no ⟨v, e, v, rfl, h⟩ fun _ _ g ⟨w, e, q⟩ => ⟨w, e, g _ _ q⟩
end Zo

namespace Zo
open PySem L2 PySem.Spec PyProof.Rows
/-! ### errors as values -/
/-- what the top says of an error's class; bm: the classes behind it -/
structure ErrC (K : PySem.W.Frag) (C : Addr) (bm : List Value) : Prop where
  cls : ∃ nm q N bs sn sub ab col dd k0 k1 k2 k3 k5, K.lookup C = some (excClassObj nm q C N bs bm true sn sub ab col dd k0 k1 k2 k3 k5 "ValueError.__new__") ∧ PySem.HandSPX.refsVE bm = true
  exC : PySem.W.subIn K (.ref C) (.type "BaseException") = some true
  tyC : PySem.W.typeIn K (.ref C) = some (.type "type")
  ga : PySem.W.findIn K (.ref C) "__getattribute__" = some (some (.builtin "BaseException.__getattribute__"))
  gg : PySem.W.findIn K (.ref C) "__getattr__" = some none
  hd : PySem.W.hasDictIn K C = true
  ca : PySem.W.findIn K (.ref C) "__class__" = some (some (.builtin "object.__class__"))
  ic : PySem.W.isClsIn K C = true
  ob : PySem.W.mroIn K C (.type "object") = some true
structure ErrK (K : PySem.W.Frag) : Prop where
  hn : PySem.W.specialIn K (.builtin "object.__class__") "__get__" = some (some (.builtin "getset_descriptor.__get__"))
  ht : PySem.W.takesIn K (.builtin "object.__class__") = some true
section
variable {K : PySem.W.Frag} {C D : Addr} {bm : List Value}
theorem ErrC.xf (E : ErrC K C bm) : XfC K C := ⟨E.ga, E.gg, E.exC, E.hd⟩
theorem ErrC.kitx (E : ErrC K C bm) (k : ErrK K) {x : Addr} {ox : Obj} {od : Option Obj} : PySem.W.KitX K (.ref x) (.ref C) (fun h => PySem.W.InstAt h x ox C od) :=
  PySem.W.kitx_exc E.ic E.ga E.gg E.exC E.ca k.hn k.ht E.ob
theorem ErrC.mro (E : ErrC K C bm) (v : Value) (n : ¬ (v == Value.ref C) = true) : PySem.W.subIn K (.ref C) v = some (bm.contains v) := by
  obtain ⟨nm, q, N, bs, sn, sub, ab, col, dd, k0, k1, k2, k3, k5, h, hv⟩ := E.cls
  show PySem.W.mroIn K C v = _
  have hc : PySem.W.clsIn K C = some { name := nm, bases := bs, mro := .ref C :: bm, ns := N, qualname := q, hasDict := true, slotNames := sn, subclasses := sub, abstract := ab, collection := col, hasDel := false } := by unfold PySem.W.clsIn; rw [h] <;> rfl
  have e : ((Value.ref C :: bm).contains v) = bm.contains v := by
    rw [List.contains_cons]
    cases q : (v == Value.ref C) with
    | true => exact absurd q n
    | false => rfl
  have ne := PySem.HandSPX.refsVE_ne (l := .ref C :: bm) (show PySem.HandSPX.refsVE (.ref C :: bm) = true from hv)
  unfold PySem.W.mroIn
  rw [hc, Option.bind_some, if_neg (by rw [ne]; decide)]
  exact congrArg some e
theorem kitE_same : PySem.W.kitOne K (.ref C) (.ref C) = some true := by
  show (if ((Value.ref C == Value.ref C) = true) then some true else _) = some true
  rw [if_pos (by simp)]
theorem kitE (E : ErrC K C bm) (t : PySem.W.isClsIn K D = true) (ty : PySem.W.typeIn K (.ref D) = some (.type "type")) (n : C ≠ D) : PySem.W.kitOne K (.ref C) (.ref D) = some (bm.contains (.ref D)) := by
  have hs : (PySem.W.clsIn K D).isSome = true := t
  show (if ((Value.ref C == Value.ref D) = true) then some true else (if ((PySem.W.clsIn K D).isSome && PySem.W.typeIn K (.ref D) == some (.type "type")) = true then PySem.W.subIn K (.ref C) (.ref D) else none)) = _
  rw [if_neg (by simpa using n), if_pos (by rw [hs, ty]; rfl)]
  exact E.mro _ (by simpa using fun z => n z.symm)
theorem kitE_ty (E : ErrC K C bm) {b : String} (hb : PySem.W.kitMeta b = true) : PySem.W.kitOne K (.ref C) (.type b) = some (bm.contains (.type b)) := by
  show (if ((Value.ref C == Value.type b) = true) then some true else (if PySem.W.kitMeta b = true then PySem.W.subIn K (.ref C) (.type b) else none)) = _
  rw [if_neg (by simp), if_pos hb]
  exact E.mro _ (by simp)
end
/-- at a an error of the class at C -/
def ErA (H : Hp) (a C : Addr) : Prop := H a = some (exo a C none) ∨ ∃ dx fs, H a = some (exo a C (some dx)) ∧ H dx = some (exd dx fs)
theorem ErA.kp {H H' : Hp} {a C : Addr} (k : ∀ a o, H a = some o → H' a = some o) (e : ErA H a C) : ErA H' a C := by
  rcases e with e | ⟨dx, fs, e, f⟩
  · exact .inl (k _ _ e)
  · exact .inr ⟨dx, fs, k _ _ e, k _ _ f⟩
theorem ErA.inst {X : Cx} {pins : List (Addr × Obj)} {σ : L2.St} {H : Hp} {s : Shared} {a C : Addr} (I : Inv X pins σ H s) (e : ErA H a C) : ∃ ox od, PySem.W.InstAt s.heap a ox C od := by
  rcases e with e | ⟨dx, fs, e, f⟩
  · obtain ⟨t1, ho⟩ := exo_at I.hok e
    exact ⟨_, none, ho, rfl, rfl, trivial⟩
  · obtain ⟨t1, ho⟩ := exo_at I.hok e
    obtain ⟨mA, ⟨o, es, ep, hd, _⟩, _⟩ := exd_at I.hok f
    exact ⟨_, some o, ho, rfl, rfl, hd⟩
/-- isinstance(e, c), e an error that is held -/
def rIsX (K : PySem.W.Frag) : List V → Hp → VK → Prop := fun xs H Q => ∃ (a C : Addr) (bm : List Value) (c : V) (u : Value) (b : Bool), xs = [.ref a, c] ∧ ErrC K C bm ∧ ErrK K ∧ ErA H a C ∧ ClsV c u ∧ PySem.W.kitOne K (.ref C) u = some b ∧ Q (.bl b) H
theorem call_isX {X : Cx} : CallR X (.builtin "isinstance") (rIsX X.K) := by
  intro pins s σ H xs us Q I r h
  obtain ⟨a, C, bm, c, u, b, rfl, E, k, ea, cv, e, q⟩ := h
  obtain ⟨u1, u2, rfl, r1, r2⟩ := vals2 r
  have e2 := cv.eq r2
  subst e2
  cases (show u1 = Value.ref a from r1)
  obtain ⟨ox, od, J⟩ := ea.inst I
  exact PySem.W.kia_one (E.kitx k) I.kIn J e (fun z => nomatch z) fun tk => ⟨.bl b, H, I.tok tk, rfl, q⟩
/-- e.f, e an error that is held -/
def tXv (K : PySem.W.Frag) (te : TE) (f : Str) : TE := fun σ H Q => te σ H fun x H1 => ∃ (a C dx : Addr) (bm : List Value) (fs : List (Str × V)) (v : V), x = .ref a ∧ ErrC K C bm ∧ PySem.W.findIn K (.ref C) f = some none ∧
  H1 a = some (exo a C (some dx)) ∧ H1 dx = some (exd dx fs) ∧ fs.lookup f = some v ∧ Q v H1
theorem pe_xv {X : Cx} {e : Expr} {te : TE} {pos : Pos} {n : Str} (he : PE X e te) (hb : attributeBase e n X.env (eval e X.env) = eval e X.env := by rfl) : PE X (.Attribute e n pos) (tXv X.K te n) := by
  refine ⟨fun pins s σ H Q I h => ?_⟩
  refine attr_of hb (thn (he.run pins s σ H _ I h) fun u s1 hh => ?_)
  obtain ⟨x, H1, I1, rx, a, C, dx, bm, fs, v, rfl, T, hno, ea, ed, l, q⟩ := hh
  obtain rfl : u = Value.ref a := rx
  obtain ⟨t1, ho⟩ := exo_at I1.hok ea
  obtain ⟨mA, hns, hr⟩ := exd_at I1.hok ed
  obtain ⟨od, ho2, hl⟩ := lookIn_ns hns
  obtain ⟨u, hu, ru⟩ := RelO.some_of (v := v) (o := mA n) (by rw [← l]; exact hr n)
  have J : PySem.W.InstAt s1.heap a _ C (some od) := ⟨ho, rfl, rfl, ho2⟩
  exact HandSPX.exc_get I1.kIn J T.ga T.gg T.exC (PySem.W.findObj_own T.hd hno rfl (by rw [hl, hu])) (handed_of ru) ⟨v, H1, I1.tok _, ru, q⟩
/-- C(e), as a value -/
def tMkX (C : Addr) (sp : Sp) (ta : TA) : TE := fun σ H Q => ta σ H fun vs H1 => vs.length ≤ 1000 ∧ ∀ a, H1 a = none → sp (.ref a :: vs) (upd H1 a (exo a C none)) (fun v H2 => v = .non ∧ Q (.ref a) H2) (fun _ _ _ => False)
section
variable {X : Cx} {C : Addr} {x : Str} {p pos : Pos}
theorem pe_mkX {CX : CXT} {fI : Addr} {k : Nat} {fd : FuncData} {ps : List Str} {sp : Sp} {e : Expr} {es : List Expr} {ta : TA} (T : OexC X.K C) (iC : PySem.W.findIn X.K (.ref C) "__init__" = some (some (.ref fI))) (tI : PySem.W.typeIn X.K (.ref fI) = some (.type "function"))
    (F1 : FnOk X.prog X.w X.K X.mg X.base CX k fI fd ps sp) (hr : Room (k + 1) X.A) (hb : Binds X.K fd ps []) (hx : Passes CX X (fun _ _ _ => False)) (hg : Gl X x) (hm : X.mg x = some (.ref C)) (ha : PA X (e :: es) ta)
    (hdb : (x == ("__debug__" : Str)) = false := by decide) (he : starEach (e :: es) X.env = (false, eval e X.env) :: starEach es X.env := by rfl) (hpl : (backTo pos (starEach es X.env)).any (·.1) = false := by rfl) :
    PE X (.Call (.Name x p) (e :: es) [] pos) (tMkX C sp ta) := by
  refine ⟨fun pins s σ H Q I h => ?_⟩
  obtain ⟨nm, q, N, bs, bm, sn, sub, ab, col, dd, k0, k1, k2, k3, k5, hC, hbm⟩ := T.cls
  refine wpAny_Call_Name_kw (ld_glob I hg hm ?_ hdb)
  refine PySem.W.callWith_K (h₀ := X.base) I.ok.mod.kin T.kC (thn (ha.run pos pins s σ H _ I h) fun us s1 ⟨vs, H1, I1, r1, hz, q1⟩ => ⟨I1.kIn, ?_⟩) he hpl
  show wpAny _ _ (call (.ref C) us) _ _ _
  obtain ⟨hp, g, dr, tk, os⟩ := s1
  have hsz : hp.objs.size ≤ hp.objs.size + 1 := Nat.le_succ _
  have hn : H1 (hp.objs.size + 1) = none := I1.hok.fresh hsz
  have hq := q1 (hp.objs.size + 1) hn
  have kk : ∀ b o, hp.get? b = some o → ((hp.push (PySem.W.kdv_tup us)).push (PySem.HandSPX.excO C hp.objs.size)).get? b = some o := fun b o e => Heap.get?_push_of_some _ (Heap.get?_push_of_some _ e)
  have hget : ((hp.push (PySem.W.kdv_tup us)).push (PySem.HandSPX.excO C hp.objs.size)).get? (hp.objs.size + 1) = some (PySem.HandSPX.excO C hp.objs.size) := by heap_get
  have I2 : Inv X pins σ (upd H1 (hp.objs.size + 1) (exo (hp.objs.size + 1) C none)) ⟨(hp.push (PySem.W.kdv_tup us)).push (PySem.HandSPX.excO C hp.objs.size), g, dr, tk, os⟩ :=
    I1.laid (t' := tk) (a := hp.objs.size + 1) (o := exo (hp.objs.size + 1) C none) (h' := (hp.push (PySem.W.kdv_tup us)).push (PySem.HandSPX.excO C hp.objs.size)) kk hsz (exo_ok hget)
  have r2 : Vals (V.ref (hp.objs.size + 1) :: vs) (Value.ref (hp.objs.size + 1) :: us) := .cons rfl r1
  have hl : (Value.ref (hp.objs.size + 1) :: us ++ []).length = ps.length := by
    have e := r2.length
    rw [F1.len _ _ _ _ hq] at e
    rw [List.append_nil]
    exact e.symm
  have hus : us.length ≤ sizeLine := by
    rw [← Paired.length r1, sizeLine_eq]
    omega
  have bd := hb _ (Value.ref (hp.objs.size + 1) :: us) I2.kIn hl
  rw [List.append_nil] at bd
  refine wpAny_call (PySem.HandSPX.call_own F.excBase_ValueError (fun Y => PySem.HandSPX.refsVE_contains Y bm hbm) (I1.kIn _ _ hC) (PySem.W.looks_findIn I1.kIn iC) (fun self => PySem.W.bind_fn I1.kIn self tI) hus
    (codeAny_mono (F1.run _ X.stack _ _ ⟨Value.ref (hp.objs.size + 1) :: us, []⟩ (Value.ref (hp.objs.size + 1) :: us) _ _ (fun _ _ _ => False) (hr.make C us []) (I2.env0.make C us []) bd r2 hq) fun r s' hq' => ?_))
  cases r with
  | error er => exact hx pins σ _ _ er s' I2 hq'
  | ok fl =>
    cases fl with
    | ret u =>
      obtain ⟨v, H', I3, rv, ev, q3⟩ := I2.after hq'
      subst ev
      exact ⟨rv, ⟨.ref (hp.objs.size + 1), H', I3, rfl, q3⟩⟩
    | next => exact False.elim hq'
    | brk => exact False.elim hq'
    | cont => exact False.elim hq'
/-- C(), C without an own __init__ -/
def tMkX0 (C : Addr) : TE := fun _ H Q => ∀ a, H a = none → Q (.ref a) (upd H a (exo a C none))
theorem pe_mkX0 {bmB : List Value} {B newId initId : String} (F : ExcBaseFacts B newId initId bmB) (q : PySem.W.excIn X.K C bmB newId = true) (gC : X.mg x = some (.ref C)) (kC : PySem.W.keepIn X.K (.ref C) = true) (hg : Gl X x)
    (hdb : (x == ("__debug__" : Str)) = false := by decide) : PE X (.Call (.Name x p) [] [] pos) (tMkX0 C) := by
  refine ⟨fun pins s σ H Q I h => ?_⟩
  refine wpAny_Call_Name_kw (ld_glob I hg gC ?_ hdb)
  refine PySem.W.callWith_K0 I.kIn kC ?_
  show wpAny _ _ (call (.ref C) []) _ _ _
  obtain ⟨bm, N, nm, qn, bs, hdct, sn, sub, ab, col, dd, k0, k1, k2, k3, k5, mN, hC, hN, hni, T⟩ := exc_obj I.kIn q
  refine wpAny_call_exc_subT F T hC hN hni (fun h' a hm => ?_) (by show 0 ≤ sizeLine; exact Nat.zero_le _)
  have hn : H a = none := I.hok.gone hm.new
  obtain ⟨t, ht, _, _⟩ := hm.there
  exact ⟨.ref a, upd H a (exo a C none), I.laidN hm.keeps hm.new hn (exo_ok ht), rfl, h a hn⟩
end
/-! ### l.count(b), a flag -/
def rCntB (K : PySem.W.Frag) : V → List V → Hp → VK → Prop := fun x xs H Q => ∃ (p : Addr) (bs : List Bool) (k : Bool), x = .ref p ∧ xs = [.bl k] ∧ SqL K H p (bs.map V.bl) ∧ Q (.int (bs.count k : Nat)) H
theorem flatB_all : ∀ bs : List Bool, (bs.map V.bl).all flatV = true
  | [] => rfl
  | b :: bs => by rw [List.map_cons, List.all_cons, flatB_all bs]; rfl
theorem cntB {k : Bool} : ∀ {bs : List Bool} {us : List Value}, Vals (bs.map V.bl) us → us.countP (eqU (.bl k)) = bs.count k
  | [], _, .nil => rfl
  | b :: bs, u :: us, .cons r t => by
    cases (show u = Value.bool b from r)
    rw [List.countP_cons, List.count_cons, cntB t]
    cases b <;> cases k <;> rfl
section
variable {X : Cx}
theorem mt_lcountB : MtR X "list.count" (rCntB X.K) := by
  intro pins s σ H x xs v us Q I rx rxs h
  obtain ⟨p, bs, k, rfl, rfl, hs, q⟩ := h
  cases rx
  obtain ⟨u, rfl, ru⟩ := rxs.one
  obtain ⟨its, rv, ⟨⟨cls, dd, data, sl⟩, n, ho, hc, hdn, hd⟩, hlen⟩ := I.list hs
  simp only at hc hd
  subst hc hd
  refine call_meets PySem.F.slot_list_count ⟨_, ho, rfl⟩ PySem.F.entry_list_count (PySem.F.args_list_count_2 _ _)
    (SeqAt.list_countAt p its.toArray n dd sl u (eqU (.bl k))) ⟨ho, fun y hy => mem_eqAt ru rfl rv (flatB_all bs) y (by simpa using hy), ?_⟩
  have ec : its.toArray.toList.countP (eqU (.bl k)) = bs.count k := cntB rv
  refine ⟨.int (bs.count k : Nat), H, I.tok _, ⟨s.toks, ?_⟩, q⟩
  show Value.int ((its.toArray.toList.countP (eqU (.bl k)) : Nat) : Int) s.toks = Value.int ((bs.count k : Nat) : Int) s.toks
  rw [ec]
end
/-! ### x == y of data, or of dicts that are alike -/
def rEqE (K : PySem.W.Frag) : R2 := fun x y H Q => rEqD K x y H Q ∨ rEqDA x y H Q
theorem op_eqE {X : Cx} (hu : X.A.units + 64 < cLine) : OpR X (compareOp .Eq) (rEqE X.K) := by
  intro pins s σ H x y v u Q I rx ry h
  rcases h with h | h
  · exact op_eqD hu pins s σ H x y v u Q I rx ry h
  · exact op_eq_dictA (by omega) pins s σ H x y v u Q I rx ry h
/-- isinstance(e, c) in the suite that holds e -/
def rIsP (K : PySem.W.Frag) (C a : Addr) (d : Option Addr) : List V → Hp → VK → Prop := fun xs H Q => ∃ (bm : List Value) (dd : Addr) (fs : List (Str × V)) (c : V) (u : Value) (b : Bool), xs = [.ref a, c] ∧ ErrC K C bm ∧ ErrK K ∧ d = some dd ∧ H dd = some (.xd fs) ∧ ClsV c u ∧ PySem.W.kitOne K (.ref C) u = some b ∧ Q (.bl b) H
theorem call_isP {X : Cx} {a C : Addr} {oe : Obj} {d : Option Addr} {cls : Value} {pn : List (Addr × Obj)} (hz : Zc cls d oe) (hf : ∃ vs, oe.data = .fields vs) :
    CallR (X.suite a ((a, oe) :: pn)) (.builtin "isinstance") (fun xs H Q => cls = .ref C ∧ rIsP X.K C a d xs H Q) := by
  intro pins s σ H xs us Q I r h
  obtain ⟨ec, bm, dd, fs, c, u, b, rfl, E, k, ed, ea, cv, e, q⟩ := h
  subst ec ed
  obtain ⟨u1, u2, rfl, r1, r2⟩ := vals2 r
  have e2 := cv.eq r2
  subst e2
  cases (show u1 = Value.ref a from r1)
  obtain ⟨hget, _⟩ := I.pin (a, oe) (List.mem_append.mpr (.inl List.mem_cons_self))
  obtain ⟨vs, hv⟩ := hf
  have hx : ObjOk X.prog X.w H s.heap dd (.xd fs) := I.hok dd _ ea
  obtain ⟨mA, hns, hr⟩ := hx
  obtain ⟨od, ho, hl⟩ := lookIn_ns hns
  have J : PySem.W.InstAt s.heap a oe C (some od) := ⟨hget, hz.1, by unfold PySem.W.notCls; rw [hv] <;> rfl, by rw [hz.2]; exact ho⟩
  exact PySem.W.kia_one (E.kitx k) I.kIn J e (fun z => nomatch z) fun tk => ⟨.bl b, H, I.tok tk, rfl, q⟩

/-! ### readings of these -/
def ndB : List Addr → Bool
  | [] => true
  | a :: l => !l.contains a && ndB l
theorem ndB_at : ∀ {l : List Addr} {i j : Nat} {a : Addr}, ndB l = true → l[i]? = some a → l[j]? = some a → i = j
  | [], i, j, a, _, h, _ => by simp at h
  | b :: l, 0, 0, a, _, _, _ => rfl
  | b :: l, 0, j + 1, a, n, h, g => by
    simp only [ndB, Bool.and_eq_true, Bool.not_eq_true'] at n
    simp only [List.getElem?_cons_zero, Option.some.injEq] at h
    simp only [List.getElem?_cons_succ] at g
    subst h
    have m := List.mem_of_getElem? g
    have c := n.1
    rw [List.contains_iff_mem.mpr m] at c
    cases c
  | b :: l, i + 1, 0, a, n, h, g => by
    simp only [ndB, Bool.and_eq_true, Bool.not_eq_true'] at n
    simp only [List.getElem?_cons_zero, Option.some.injEq] at g
    simp only [List.getElem?_cons_succ] at h
    subst g
    have m := List.mem_of_getElem? h
    have c := n.1
    rw [List.contains_iff_mem.mpr m] at c
    cases c
  | b :: l, i + 1, j + 1, a, n, h, g => by
    simp only [ndB, Bool.and_eq_true] at n
    simp only [List.getElem?_cons_succ] at h g
    exact congrArg (· + 1) (ndB_at n.2 h g)
theorem sameU {H : Hp} {p : Addr} {o : HO} (n : H p = none) : Same H (upd H p o) := fun b u q => by
  rw [upd_ne (ne_of_none q n)]
  exact q
theorem z_newS {xs : List V} {H : Hp} {Q : VK} (k : ∀ p H', Same H H' → H p = none → H' p = some (.lst xs) → Q (.ref p) H') (l : xs.length ≤ 1000000 := by exact Nat.le_of_ble_eq_true rfl) : newL Q xs H :=
  ⟨sz1000 l, fun p n => k p _ (sameU n) n upd_same⟩
theorem z_catS {a b : Addr} {xs ys : List V} {H : Hp} {Q : VK} (ha : H a = some (.lst xs)) (hb : H b = some (.lst ys)) (k : ∀ p H', Same H H' → H p = none → H' p = some (.lst (xs ++ ys)) → Q (.ref p) H') (l : xs.length + ys.length ≤ 1000000 := by exact Nat.le_of_ble_eq_true rfl) :
    rCat (.ref a) (.ref b) H Q := ⟨a, b, xs, ys, rfl, rfl, ha, hb, sz1000 l, fun p n => k p _ (sameU n) n upd_same⟩
/-- an error of the class C with v in its field, or with none -/
def E1 (h : Addr) (H : Hp) (v : V) (t : Addr × Option Str) (x : V) : Prop := ∃ a, x = .ref a ∧ a ≠ h ∧ match t.2 with
  | none => H a = some (exo a t.1 none)
  | some f => ∃ dx, dx ≠ h ∧ H a = some (exo a t.1 (some dx)) ∧ H dx = some (exd dx [(f, v)])
theorem E1.kp {h : Addr} {H H' : Hp} {v : V} {t : Addr × Option Str} {x : V} (k : Kp h H H') (e : E1 h H v t x) : E1 h H' v t x := by
  obtain ⟨C, f⟩ := t
  obtain ⟨a, rfl, n, e⟩ := e
  refine ⟨a, rfl, n, ?_⟩
  cases f with
  | none => exact k _ _ n e
  | some f =>
    obtain ⟨dx, n2, e1, e2⟩ := e
    exact ⟨dx, n2, k _ _ n e1, k _ _ n2 e2⟩
theorem E1.er {h : Addr} {H : Hp} {v : V} {C : Addr} {f : Option Str} {x : V} (e : E1 h H v (C, f) x) : ∃ a, x = .ref a ∧ ErA H a C := by
  obtain ⟨a, rfl, n, e⟩ := e
  cases f with
  | none => exact ⟨a, rfl, .inl e⟩
  | some f =>
    obtain ⟨dx, n2, e1, e2⟩ := e
    exact ⟨a, rfl, .inr ⟨dx, _, e1, e2⟩⟩
inductive Es (h : Addr) (H : Hp) (v : V) : List (Addr × Option Str) → List V → Prop
  | nil : Es h H v [] []
  | cons {t : Addr × Option Str} {ts : List (Addr × Option Str)} {x : V} {xs : List V} : E1 h H v t x → Es h H v ts xs → Es h H v (t :: ts) (x :: xs)
theorem Es.kp {h : Addr} {H H' : Hp} {v : V} (k : Kp h H H') : ∀ {ts : List (Addr × Option Str)} {xs : List V}, Es h H v ts xs → Es h H' v ts xs
  | _, _, .nil => .nil
  | _, _, .cons r t => .cons (r.kp k) (Es.kp k t)
theorem Es.app {h : Addr} {H : Hp} {v : V} : ∀ {ts us : List (Addr × Option Str)} {xs ys : List V}, Es h H v ts xs → Es h H v us ys → Es h H v (ts ++ us) (xs ++ ys)
  | _, _, _, _, .nil, s => s
  | _, _, _, _, .cons r t, s => .cons r (Es.app t s)
theorem Es.len {h : Addr} {H : Hp} {v : V} : ∀ {ts : List (Addr × Option Str)} {xs : List V}, Es h H v ts xs → xs.length = ts.length
  | _, _, .nil => rfl
  | _, _, .cons _ t => by rw [List.length_cons, List.length_cons, Es.len t]
theorem Es.at {h : Addr} {H : Hp} {v : V} : ∀ {ts : List (Addr × Option Str)} {xs : List V} {i : Nat} {t : Addr × Option Str}, Es h H v ts xs → ts[i]? = some t → ∃ x, xs[i]? = some x ∧ E1 h H v t x
  | _, _, _, _, .nil, e => by simp at e
  | _, _, 0, _, .cons r _, e => by simp at e; subst e; exact ⟨_, rfl, r⟩
  | _, _, i + 1, d, .cons _ t, e => by
    obtain ⟨v, h1, h2⟩ := Es.at (i := i) (t := d) t (by simpa using e)
    exact ⟨v, by simpa using h1, h2⟩
theorem kpS {h : Addr} {H H' : Hp} (s : Same H H') : Kp h H H' := fun a o _ e => s a o e
theorem z_bm {K : PySem.W.Frag} {T : String} {r : V → List V → Hp → VK → Prop} {to : TE} {tr : TA} {σ : L2.St} {H : Hp} {Q : VK} (q : to σ H fun x H1 => tyV K T x H1 ∧ tr σ H1 fun xs H2 => r x xs H2 Q) : tBM K T r to tr σ H Q := q
theorem tyVL {K : PySem.W.Frag} {H : Hp} {p : Addr} {xs : List V} (e : H p = some (.lst xs)) : tyV K "list" (.ref p) H := .inl ⟨rfl, _, SqL.of e⟩
theorem z_xv {K : PySem.W.Frag} {te : TE} {f : Str} {σ : L2.St} {H : Hp} {Q : VK} (q : te σ H fun x H1 => ∃ (a C dx : Addr) (bm : List Value) (fs : List (Str × V)) (v : V), x = .ref a ∧ ErrC K C bm ∧ PySem.W.findIn K (.ref C) f = some none ∧
  H1 a = some (exo a C (some dx)) ∧ H1 dx = some (exd dx fs) ∧ fs.lookup f = some v ∧ Q v H1) : tXv K te f σ H Q := q
theorem z_fx {K : PySem.W.Frag} {C h pm : Addr} {f : Str} {bm : List Value} {σ : L2.St} {H : Hp} {Q : VK} {ms : List V} {v : V} {ts : List (Addr × Option Str)} {i j : Nat} (E : ErrC K C bm) (no : PySem.W.findIn K (.ref C) f = some none) (e : σ[j]? = some (some (.ref pm)))
    (fm : H pm = some (.lst ms)) (es : Es h H v ts ms) (ht : ts[i]? = some (C, some f)) (q : Q v H) : tXv K (tOp (rIxL K) (tVar j) (tC (.int (i : Nat)))) f σ H Q := by
  obtain ⟨x, hx, a, rfl, n, dx, n2, e1, e2⟩ := es.at ht
  exact ⟨_, e, pm, ms, _, _, rfl, rfl, SqL.of fm, atI_nat hx, a, C, dx, bm, _, v, rfl, E, no, e1, e2, lk_fst, q⟩
/-- errors so far, and a list -/
structure Ac (h : Addr) (H0 H : Hp) (v : V) (ts : List (Addr × Option Str)) (xs : List V) (p : Addr) (l : List V) : Prop where
  same : Same H0 H
  hh : ∃ o, H h = some o
  es : Es h H v ts xs
  at_ : H p = some (.lst l)
  ne : p ≠ h
section
variable {h : Addr} {H0 H H' : Hp} {v : V} {ts : List (Addr × Option Str)} {xs l : List V} {p : Addr} {Q : VK}
theorem Ac.to (a : Ac h H0 H v ts xs p l) (s : Same H H') : Ac h H0 H' v ts xs p l := ⟨a.same.trans s, let ⟨o, e⟩ := a.hh; ⟨o, s _ _ e⟩, a.es.kp (kpS s), s _ _ a.at_, a.ne⟩
theorem Ac.new (a : Ac h H0 H v ts xs p l) {q : Addr} (n : H q = none) : q ≠ h := fun e => by
  obtain ⟨o, z⟩ := a.hh
  rw [e, z] at n
  cases n
def newX (C : Addr) (sp : Sp) (Q : VK) (vs : List V) (H : Hp) : Prop := vs.length ≤ 1000 ∧ ∀ a, H a = none → sp (.ref a :: vs) (upd H a (exo a C none)) (fun v H2 => v = .non ∧ Q (.ref a) H2) (fun _ _ _ => False)
theorem z_mkX {C : Addr} {sp : Sp} {tr : TA} {σ : L2.St} (q : tr σ H fun vs H1 => newX C sp Q vs H1) : tMkX C sp tr σ H Q := q
theorem z_mkA {K : PySem.W.Frag} {C : Addr} {f : Str} (T : OexC K C) (no : PySem.W.findIn K (.ref C) f = some none) (a : Ac h H0 H v ts xs p l)
    (k : ∀ x H', Ac h H0 H' v (ts ++ [(C, some f)]) (xs ++ [x]) p l → Q x H') : newX C (spX1 K C f) Q [v] H := by
  refine ⟨Nat.le_of_ble_eq_true rfl, fun x nx => ⟨x, v, rfl, T, no, upd_same, fun dx nd ne => ⟨rfl, ?_⟩⟩⟩
  have nd1 : H dx = none := by
    rw [upd_ne ne] at nd
    exact nd
  have hs : Same H (upd (upd (upd H x (exo x C none)) dx (exd dx [(f, v)])) x (exo x C (some dx))) := fun b u q => by
    rw [upd_ne (ne_of_none q nx), upd_ne (ne_of_none q nd1), upd_ne (ne_of_none q nx)]
    exact q
  have a2 := a.to hs
  exact k _ _ ⟨a2.same, a2.hh, a2.es.app (.cons ⟨x, rfl, a.new nx, dx, a.new nd1, upd_same, by rw [upd_ne ne, upd_same]⟩ .nil), a2.at_, a2.ne⟩
theorem z_mkA0 {C : Addr} {σ : L2.St} (a : Ac h H0 H v ts xs p l) (k : ∀ x H', Ac h H0 H' v (ts ++ [(C, none)]) (xs ++ [x]) p l → Q x H') : tMkX0 C σ H Q := by
  intro x nx
  have a2 := a.to (sameU (o := exo x C none) nx)
  exact k _ _ ⟨a2.same, a2.hh, a2.es.app (.cons ⟨x, rfl, a.new nx, upd_same⟩ .nil), a2.at_, a2.ne⟩
theorem z_newA {ys : List V} (a : Ac h H0 H v ts xs p l) (k : ∀ q H', Ac h H0 H' v ts xs p l → H' q = some (.lst ys) → q ≠ h → Q (.ref q) H') (z : ys.length ≤ 1000000 := by exact Nat.le_of_ble_eq_true rfl) : newL Q ys H :=
  z_newS (fun q H' s n e => k q H' (a.to s) e (a.new n)) z
theorem z_catA {q : Addr} {ys : List V} (a : Ac h H0 H v ts xs p l) (e : H q = some (.lst ys)) (k : ∀ r H', Ac h H0 H' v ts xs r (l ++ ys) → Q (.ref r) H') (z : l.length + ys.length ≤ 1000000 := by exact Nat.le_of_ble_eq_true rfl) : rCat (.ref p) (.ref q) H Q :=
  z_catS a.at_ e (fun r H' s n f => k r H' ⟨(a.to s).same, (a.to s).hh, (a.to s).es, f, a.new n⟩) z
theorem Ac.turn {q : Addr} {ys : List V} (a : Ac h H0 H v ts xs p l) (e : H q = some (.lst ys)) (n : q ≠ h) : Ac h H0 H v ts xs q ys := ⟨a.same, a.hh, a.es, e, n⟩
end
theorem Hd.ac {h c : Addr} {H : Hp} {v : V} (x : Hd h c H) : ∃ l, Ac h H H v [] [] c l := by
  obtain ⟨nc, ns, i, z, g, t, q, r, b⟩ := x
  exact ⟨_, Same.refl H, ⟨_, q⟩, .nil, r, nc⟩
/-- a value that is equal to itself -/
def Slf (K : PySem.W.Frag) (H : Hp) (v : V) : Prop := (∃ d, Dp K H v d ∧ SeqAt.shaped d = true ∧ PyData.eqv d d = true) ∨ ∃ a ks, v = .ref a ∧ H a = some (.dK ks) ∧ ∀ p ∈ ks, valV ks p.1 = some p.2 ∧ flatB p.2 = true
theorem z_eqE {K : PySem.W.Frag} {H : Hp} {v : V} {Q : VK} (s : Slf K H v) (q : Q (.bl true) H) : rEqE K v v H Q := by
  rcases s with ⟨d, h1, h2, h3⟩ | ⟨a, ks, rfl, h1, h2⟩
  · exact .inl ⟨d, d, h1, h1, h2, h2, by rw [h3]; exact q⟩
  · exact .inr ⟨a, a, ks, ks, rfl, rfl, h1, h1, rfl, h2, q⟩
theorem z_disp1 {cl : Nat → Addr} {h c : Addr} {σ : L2.St} {H : Hp} {Q : VK} {x : Str} {w : V} {d : Dt} (hd : Hd h c H) (r : R cl h H w d) (hw : ∃ i, w = V.int i) (k : ∀ p H', Go h c H H' → H p = none → R cl h H' (.ref p) (.dct [.inr x] [d]) → Q (.ref p) H') :
    tDisp [((tC (.str x)), (tC w))] σ H Q := by
  intro p n
  refine ⟨upd_same, [(.inr x, w)], rfl, Nat.le_of_ble_eq_true rfl, ?_⟩
  have e : upd (upd H p (.dK [])) p (.dK (mergeK [] [(.inr x, w)])) = upd H p (.dK ([Sum.inr x].zip [w])) := by
    rw [upd_upd]
    rfl
  rw [e]
  exact k p _ (Go.new hd n) n (.dct (hd.ne n) upd_same rfl (.cons (RS.kp (Kp.new n) r) .nil))
end Zo

/-! ### which of two rows of ints stands ahead -/
namespace Zo
open PySem L2 PySem.Spec PyProof.Rows
def lexI : List Int → List Int → Bool
  | [], [] => false
  | [], _ :: _ => true
  | _ :: _, [] => false
  | x :: xs, y :: ys => if x = y then lexI xs ys else decide (x < y)
theorem lexI_self : ∀ l : List Int, lexI l l = false
  | [] => rfl
  | x :: l => by
    show (if x = x then lexI l l else decide (x < x)) = false
    rw [if_pos rfl, lexI_self l]
theorem lexI_asym : ∀ {l m : List Int}, lexI l m = true → lexI m l = false
  | [], [], _ => rfl
  | [], _ :: _, _ => rfl
  | _ :: _, [], h => by cases h
  | x :: l, y :: m, h => by
    have h' : (if x = y then lexI l m else decide (x < y)) = true := h
    show (if y = x then lexI m l else decide (y < x)) = false
    by_cases e : x = y
    · rw [if_pos e] at h'
      rw [if_pos e.symm]
      exact lexI_asym h'
    · rw [if_neg e] at h'
      rw [if_neg fun z => e z.symm]
      have := of_decide_eq_true h'
      exact decide_eq_false (by omega)
/-- not behind, over three -/
theorem lexI_tr : ∀ {l m n : List Int}, lexI m l = false → lexI n m = false → lexI n l = false
  | [], [], n, _, h => h
  | [], y :: m, n, h1, h2 => by
    cases n with
    | nil => cases h2
    | cons z n => rfl
  | x :: l, [], n, h1, h2 => by cases h1
  | x :: l, y :: m, [], h1, h2 => by cases h2
  | x :: l, y :: m, z :: n, h1, h2 => by
    have a : (if y = x then lexI m l else decide (y < x)) = false := h1
    have b : (if z = y then lexI n m else decide (z < y)) = false := h2
    show (if z = x then lexI n l else decide (z < x)) = false
    by_cases e1 : y = x
    · rw [if_pos e1] at a
      subst e1
      by_cases e2 : z = y
      · rw [if_pos e2] at b ⊢
        exact lexI_tr a b
      · rw [if_neg e2] at b ⊢
        exact b
    · rw [if_neg e1] at a
      have a' := of_decide_eq_false a
      by_cases e2 : z = y
      · rw [if_neg (by omega)]
        exact decide_eq_false (by omega)
      · rw [if_neg e2] at b
        have b' := of_decide_eq_false b
        rw [if_neg (by omega)]
        exact decide_eq_false (by omega)
/-- neither ahead: the same -/
theorem lexI_eq : ∀ {l m : List Int}, lexI l m = false → lexI m l = false → l = m
  | [], [], _, _ => rfl
  | [], _ :: _, h, _ => by cases h
  | _ :: _, [], _, h => by cases h
  | x :: l, y :: m, h1, h2 => by
    have a : (if x = y then lexI l m else decide (x < y)) = false := h1
    have b : (if y = x then lexI m l else decide (y < x)) = false := h2
    by_cases e : x = y
    · rw [if_pos e] at a
      rw [if_pos e.symm] at b
      rw [e, lexI_eq a b]
    · rw [if_neg e] at a
      rw [if_neg fun z => e z.symm] at b
      have a' := of_decide_eq_false a
      have b' := of_decide_eq_false b
      omega
theorem lexI_swo {α : Type} (k : α → List Int) : SrtO.Swo fun v u => lexI (k v) (k u) := ⟨fun _ _ h => lexI_asym h, fun _ _ _ h1 h2 => lexI_tr h1 h2⟩
/-- at v a tuple of these ints -/
def IsIts (h : Heap) (v : Value) (ns : List Int) : Prop := ∃ a o us n, v = .ref a ∧ h.get? a = some o ∧ o.cls = .type "tuple" ∧ o.data = .seq us n ∧ Paired (fun (i : Int) (u : Value) => ∃ t, u = .int i t) ns us.toList
theorem IsIts.keeps {h h' : Heap} {v : Value} {ns : List Int} (x : IsIts h v ns) (k : ∀ b o, h.get? b = some o → o.cls = .type "tuple" → h'.get? b = some o) : IsIts h' v ns := by
  obtain ⟨a, o, us, n, e, ho, hc, hd, r⟩ := x
  exact ⟨a, o, us, n, e, k a o ho hc, hc, hd, r⟩
section
variable {prog : Program} {w : World} {A : Around} {E : Value → Shared → Prop} {s : Shared}
theorem katLex_ints {b fin : Bool} {Q : Bool → Shared → Prop} : ∀ (xs ys : List Int) (i : Nat) (vs ws : List Value), Paired (fun (i : Int) (u : Value) => ∃ t, u = .int i t) xs vs → Paired (fun (i : Int) (u : Value) => ∃ t, u = .int i t) ys ws →
    fin = decide (xs.length < ys.length) → Q (lexI xs ys) s → PySem.W.KatLex prog w A b fin Q (vs.zip ws) i s
  | [], [], i, _, _, .nil, .nil, hf, hq => PySem.W.kat_nil (by rw [hf]; exact hq)
  | [], y :: ys, i, _, _, .nil, .cons r rs, hf, hq => PySem.W.kat_nil (by
      have e : decide ((([] : List Int)).length < (y :: ys).length) = true := decide_eq_true (by simp)
      rw [hf, e]
      exact hq)
  | x :: xs, [], i, _, _, .cons r rs, .nil, hf, hq => PySem.W.kat_nil (by
      have e : decide ((x :: xs).length < (([] : List Int)).length) = false := decide_eq_false (by simp)
      rw [hf, e]
      exact hq)
  | x :: xs, y :: ys, i, _, _, .cons r rs, .cons r' rs', hf, hq => by
    obtain ⟨t, rfl⟩ := r
    obtain ⟨u, rfl⟩ := r'
    have hf' : fin = decide (xs.length < ys.length) := by rw [hf, List.length_cons, List.length_cons]; simp
    have e : lexI (x :: xs) (y :: ys) = if x = y then lexI xs ys else decide (x < y) := rfl
    refine PySem.W.kat_cons (SeqAt.EqAt.int_int x t y u prog w _ _ ?_)
    refine PySem.W.kat_go (fun e1 => ?_) (fun e1 => ?_)
    · have ex : x = y := by simpa using e1
      rw [e, if_pos ex] at hq
      exact PySem.W.kat_yes (katLex_ints xs ys (i + 1) _ _ rs rs' hf' hq)
    · have ex : ¬ x = y := by simpa using e1
      rw [e, if_neg ex] at hq
      exact PySem.W.kat_no (oneLt_any_int hq)
theorem its_cmp {vs : List Value} {k : Value → List Int} (hp : ∀ v ∈ vs, IsIts s.heap v (k v)) : SrtO.Cmp prog w A s (tuples' true) (fun p => p.1 ∈ vs) (SrtO.lt2 fun v u => lexI (k v) (k u)) := by
  intro p q hm hm'
  have h1 := hp _ hm
  have h2 := hp _ hm'
  show wpAny (model prog w) A (keyLt' (tuples' true) p.1 q.1) (fun r s' => s' = s ∧ r = lexI (k p.1) (k q.1)) (fun _ _ => False) s
  generalize k p.1 = xs at h1 ⊢
  generalize k q.1 = ys at h2 ⊢
  obtain ⟨a, o, us, n, e, ho, hc, hd, r⟩ := h1
  obtain ⟨a', o', us', n', e', ho', hc', hd', r'⟩ := h2
  rw [e, e']
  refine PySem.W.kat_lt ho hd ho' hd' (katLex_ints xs ys 0 _ _ r r' ?_ ⟨rfl, rfl⟩)
  have l1 := Paired.length r
  have l2 := Paired.length r'
  rw [l1, l2, Array.length_toList, Array.length_toList]
theorem its_firsts {h : Heap} {k : Value → List Int} : ∀ {vs : List Value}, (∀ v ∈ vs, IsIts h v (k v) ∧ k v ≠ []) → ∃ fs, PySem.W.KatTups h vs fs ∧ fs.length = vs.length ∧ ∀ f ∈ fs, ∃ i t, f = Value.int i t
  | [], _ => ⟨[], PySem.W.KatTups.nil, rfl, fun f hf => by cases hf⟩
  | v :: vs, hv => by
    obtain ⟨fs, h1, h2, h3⟩ := its_firsts (vs := vs) fun u hu => hv u (List.mem_cons_of_mem _ hu)
    obtain ⟨⟨a, o, us, n, e, ho, hc, hd, r⟩, ne⟩ := hv v List.mem_cons_self
    cases hk : k v with
    | nil => exact absurd hk ne
    | cons i l =>
      rw [hk] at r
      cases hu : us.toList with
      | nil => rw [hu] at r; cases r
      | cons u us' =>
        rw [hu] at r
        cases r with
        | cons r0 _ =>
          obtain ⟨t, rfl⟩ := r0
          refine ⟨.int i t :: fs, e ▸ PySem.W.KatTups.cons ho hc hd ?_ h1, by simp [h2], fun f hf => ?_⟩
          · rw [← Array.getElem?_toList, hu]
            rfl
          · rcases List.mem_cons.mp hf with z | z
            · exact ⟨i, t, z⟩
            · exact h3 f z
theorem its_sortable {a : Addr} {vs : List Value} {k : Value → List Int} (h0 : 0 < vs.length) (hp : ∀ v ∈ vs, IsIts s.heap v (k v) ∧ k v ≠ []) (ha : ∀ o, s.heap.get? a = some o → o.cls ≠ .type "tuple") : SrtO.SortableO prog w A s a vs fun v u => lexI (k v) (k u) := by
  intro h' keep
  have hp' : ∀ v ∈ vs, IsIts h' v (k v) ∧ k v ≠ [] := fun v hm => ⟨(hp v hm).1.keeps fun b o e c => keep b o (fun z => by subst z; exact ha o e c) e, (hp v hm).2⟩
  obtain ⟨fs, h1, h2, h3⟩ := its_firsts hp'
  refine ⟨tuples' true, fun Q E hq => ?_, its_cmp fun v hm => (hp' v hm).1⟩
  refine PySem.W.kat_kind (T := .type "int") h1 (by omega) (fun f hm => ?_) (by rfl) ?_
  · obtain ⟨x, t, rfl⟩ := h3 f hm
    exact PySem.W.Looks.now
  · have e : (Value.type "int" != Value.type "tuple") = true := by first | decide +kernel | rfl | decide
    rw [e]
    exact hq
end
/-- sorted(xs), xs a list of tuples of ints, none empty -/
def rSortI (K : PySem.W.Frag) : List V → Hp → VK → Prop := fun vs H Q => ∃ (a : Addr) (xs : List V) (k : V → List Int), vs = [V.ref a] ∧ SqL K H a xs ∧ (∀ x ∈ xs, ∃ t, x = V.ref t ∧ k x ≠ [] ∧ H t = some (.tup ((k x).map V.int))) ∧
  ∀ ys p, SrtO.Srtd (fun x y => lexI (k x) (k y)) ys → ys.Perm xs → H p = none → Q (.ref p) (upd H p (.lst ys))
theorem its_of : ∀ {ns : List Int} {us : List Value}, Vals (ns.map V.int) us → Paired (fun (i : Int) (u : Value) => ∃ t, u = .int i t) ns us
  | [], _, .nil => .nil
  | _ :: _, _, .cons r t => .cons r (its_of t)
theorem call_sortI {X : Cx} : CallR X (.builtin "sorted") (rSortI X.K) := by
  intro pins s σ H vs us Q I r h
  obtain ⟨a, xs, k, rfl, hs, hx, q⟩ := h
  obtain ⟨its, rv, hl, hz⟩ := I.list hs
  obtain ⟨u, rfl, ru⟩ := vals1 r
  obtain rfl : u = Value.ref a := ru
  obtain ⟨e1, e2⟩ := refs_back rv fun x m => by
    obtain ⟨t, e, _⟩ := hx x m
    exact ⟨t, e⟩
  have hp : ∀ v ∈ its, IsIts s.heap v (k (backV v)) ∧ k (backV v) ≠ [] := fun v hv => by
    obtain ⟨t, rfl⟩ := e2 v hv
    have hm : V.ref t ∈ xs := by rw [e1]; exact List.mem_map.mpr ⟨_, hv, rfl⟩
    obtain ⟨t', e, ne, ht⟩ := hx _ hm
    cases e
    obtain ⟨_, its2, r2, o, ho, hc, n, hd⟩ := I.hok _ _ ht
    exact ⟨⟨t, o, _, n, rfl, ho, hc, hd, by rw [show its2.toArray.toList = its2 from by simp]; exact its_of r2⟩, ne⟩
  refine SrtO.sorted_ord (lexI_swo fun u => k (backV u)) hl.isList (by rw [← rv.length]; exact hz) (fun h2 h₁ a ha kk => ?_) fun out hs hb => ?_
  · refine its_sortable (s := { s with heap := h₁ }) (by omega) (fun v hm => ⟨(hp v hm).1.keeps fun b o e _ => (kk b o e).2, (hp v hm).2⟩) fun o e => ?_
    have e' : some o = some (seqObj "list" its.toArray 0) := e.symm.trans ha
    cases e'
    intro c
    exact absurd (Value.type.inj c) (by decide)
  · have h3 : ∀ u ∈ out, ∃ a, u = Value.ref a := fun u hu => e2 u (hb.perm.mem_iff.mp hu)
    have hb' : (out.map backV).Perm xs := by
      rw [e1]
      exact hb.perm.map backV
    obtain ⟨n, hn⟩ := sortedAll_at s.heap its out.toArray
    refine ⟨.ref (s.heap.objs.size + 1), upd H (s.heap.objs.size + 1) (.lst (out.map backV)), I.laid (t' := s.toks) (fun b o e => sortedAll_old e) (Nat.le_succ _) ⟨?_, out, n, vals_back h3, hn⟩, rfl, q _ _ (SrtO.srtd_map hs) hb' (I.hok.fresh (Nat.le_succ _))⟩
    rw [hb'.length_eq]
    exact hz
end Zo

/-! ### groups of people: from, to, how many -/
namespace Zo
open PySem L2 PySem.Spec PyProof.Rows
abbrev G3 := Int × Int × Int
abbrev prG (g : G3) : Int × Int := (g.1, g.2.1)
def kG (g : G3) : List Key := [.inl g.1, .inl g.2.1]
def enc (l : List G3) : List (List Key × V) := l.map fun g => (kG g, .int g.2.2)
def rwG (g : G3) : List Int := [g.1, g.2.1, g.2.2]
def vsG (g : G3) : List V := [.int g.1, .int g.2.1, .int g.2.2]
def dG (g : G3) : Dt := .tup [.int g.1, .int g.2.1, .int g.2.2]
def ltG (a b : G3) : Prop := a.1 < b.1 ∨ (a.1 = b.1 ∧ a.2.1 < b.2.1)
def okG (f : Int) (g : G3) : Prop := 0 ≤ g.1 ∧ g.1 < f ∧ 0 ≤ g.2.1 ∧ g.2.1 < f ∧ 1 ≤ g.2.2 ∧ g.2.2 ≤ 1000000000000000000000000000000
/-- groups as a standing has them -/
structure Gs (f : Int) (gs : List G3) : Prop where
  len : gs.length ≤ 400
  asc : gs.Pairwise ltG
  el : ∀ g ∈ gs, okG f g
theorem kG_iff {g : G3} {a b : Int} : kG g = [.inl a, .inl b] ↔ prG g = (a, b) := by
  unfold kG prG
  simp
def putG (l : List G3) (a b n : Int) : List G3 := if l.any (fun g => decide (prG g = (a, b))) = true then l.map (fun g => if prG g = (a, b) then (g.1, g.2.1, n) else g) else l ++ [(a, b, n)]
theorem putK_enc (l : List G3) (a b n : Int) : putK (enc l) [.inl a, .inl b] (.int n) = enc (putG l a b n) := by
  unfold putK putG enc
  have e : ((l.map fun g => (kG g, V.int g.2.2)).any fun kv => decide (kv.1 = [Sum.inl a, Sum.inl b])) = l.any fun g => decide (prG g = (a, b)) := by
    rw [List.any_map]
    congr 1
    funext g
    show decide (kG g = _) = _
    rw [Bool.eq_iff_iff, decide_eq_true_iff, decide_eq_true_iff]
    exact kG_iff
  rw [e]
  by_cases q : (l.any fun g => decide (prG g = (a, b))) = true
  · rw [if_pos q, if_pos q, List.map_map, List.map_map]
    refine List.map_congr_left fun g _ => ?_
    show (if kG g = _ then (kG g, V.int n) else (kG g, V.int g.2.2)) = _
    by_cases z : prG g = (a, b)
    · rw [if_pos (kG_iff.mpr z)]
      show _ = (kG (if prG g = (a, b) then (g.1, g.2.1, n) else g), V.int (if prG g = (a, b) then (g.1, g.2.1, n) else g).2.2)
      rw [if_pos z]
      rfl
    · rw [if_neg fun y => z (kG_iff.mp y)]
      show _ = (kG (if prG g = (a, b) then (g.1, g.2.1, n) else g), V.int (if prG g = (a, b) then (g.1, g.2.1, n) else g).2.2)
      rw [if_neg z]
  · rw [if_neg q, if_neg q, List.map_append]
    rfl
theorem putG_pr (l : List G3) (a b n : Int) (h : (l.map prG).Nodup) : ((putG l a b n).map prG).Nodup := by
  unfold putG
  by_cases q : (l.any fun g => decide (prG g = (a, b))) = true
  · rw [if_pos q, List.map_map]
    have e : (prG ∘ fun g => if prG g = (a, b) then (g.1, g.2.1, n) else g) = prG := by
      funext g
      show prG (if prG g = (a, b) then (g.1, g.2.1, n) else g) = prG g
      by_cases z : prG g = (a, b)
      · rw [if_pos z]
      · rw [if_neg z]
    rw [e]
    exact h
  · rw [if_neg q, List.map_append, List.nodup_append]
    refine ⟨h, by simp, fun x hx y hy z => ?_⟩
    simp only [List.map_cons, List.map_nil, List.mem_cons, List.not_mem_nil, or_false] at hy
    subst z
    obtain ⟨g, hg, e⟩ := List.mem_map.mp hx
    refine q (List.any_eq_true.mpr ⟨g, hg, decide_eq_true ?_⟩)
    rw [e, hy]
theorem putG_el {f : Int} {l : List G3} {a b n : Int} (h : ∀ g ∈ l, okG f g) (k : okG f (a, b, n)) : ∀ g ∈ putG l a b n, okG f g := by
  intro g hg
  unfold putG at hg
  by_cases q : (l.any fun g => decide (prG g = (a, b))) = true
  · rw [if_pos q] at hg
    obtain ⟨u, hu, rfl⟩ := List.mem_map.mp hg
    by_cases z : prG u = (a, b)
    · rw [if_pos z]
      have y := h u hu
      exact ⟨y.1, y.2.1, y.2.2.1, y.2.2.2.1, k.2.2.2.2.1, k.2.2.2.2.2⟩
    · rw [if_neg z]
      exact h u hu
  · rw [if_neg q] at hg
    rcases List.mem_append.mp hg with y | y
    · exact h g y
    · simp only [List.mem_cons, List.not_mem_nil, or_false] at y
      rw [y]
      exact k
theorem putG_len (l : List G3) (a b n : Int) : (putG l a b n).length ≤ l.length + 1 := by
  unfold putG
  split
  · rw [List.length_map]; omega
  · rw [List.length_append]; simp
theorem valV_enc : ∀ {l : List G3} {g : G3}, (l.map prG).Nodup → g ∈ l → valV (enc l) (kG g) = some (.int g.2.2)
  | u :: l, g, h, m => by
    rw [List.map_cons, List.nodup_cons] at h
    unfold valV enc
    rw [List.map_cons, List.find?_cons]
    by_cases z : kG u = kG g
    · rw [decide_eq_true z]
      have e : prG u = prG g := kG_iff.mp z
      rcases List.mem_cons.mp m with y | y
      · rw [y]
        rfl
      · exact absurd (e ▸ List.mem_map_of_mem (f := prG) y) h.1
    · rw [decide_eq_false z]
      rcases List.mem_cons.mp m with y | y
      · exact absurd (y ▸ rfl) z
      · exact valV_enc h.2 y
/-! rows in the heap -/
def bk3 : Option HO → Option G3
  | some (.tup [.int a, .int b, .int c]) => some (a, b, c)
  | _ => none
theorem bk3_some {o : Option HO} {g : G3} (h : bk3 o = some g) : o = some (.tup (vsG g)) := by
  unfold bk3 at h
  split at h
  · cases h
    rfl
  · cases h
def bkG (H : Hp) : V → Option G3
  | .ref t => bk3 (H t)
  | _ => none
theorem bkG_some {H : Hp} {x : V} {g : G3} (h : bkG H x = some g) : ∃ t, x = .ref t ∧ H t = some (.tup (vsG g)) := by
  cases x with
  | ref t => exact ⟨t, rfl, bk3_some h⟩
  | _ => cases h
theorem bkG_of {H : Hp} {t : Addr} {g : G3} (h : H t = some (.tup (vsG g))) : bkG H (.ref t) = some g := by
  show bk3 (H t) = some g
  rw [h]
  rfl
def P3 (H : Hp) (xs : List V) (gs : List G3) : Prop := xs.map (bkG H) = gs.map some
/-- all tuples stay -/
def KT (H H' : Hp) : Prop := ∀ t vs, H t = some (.tup vs) → H' t = some (.tup vs)
theorem KT.of {H H' : Hp} (s : Same H H') : KT H H' := fun t vs e => s t _ e
theorem KT.upd {H : Hp} {d : Addr} {o u : HO} (e : H d = some u) (n : ∀ vs, u ≠ .tup vs) : KT H (L2.upd H d o) := fun t vs q => by
  by_cases z : t = d
  · rw [z, e] at q
    exact absurd (Option.some.inj q) (n vs)
  · rw [upd_ne z]
    exact q
theorem KT.trans {H H1 H2 : Hp} (a : KT H H1) (b : KT H1 H2) : KT H H2 := fun t vs e => b t vs (a t vs e)
theorem P3.nil {H : Hp} : P3 H [] [] := rfl
theorem P3.kt {H H' : Hp} (k : KT H H') : ∀ {xs : List V} {gs : List G3}, P3 H xs gs → P3 H' xs gs
  | [], [], _ => rfl
  | [], _ :: _, h => by cases h
  | _ :: _, [], h => by cases h
  | x :: xs, g :: gs, h => by
    have h' : bkG H x :: xs.map (bkG H) = some g :: gs.map some := h
    obtain ⟨h1, h2⟩ := List.cons.inj h'
    obtain ⟨t, rfl, e⟩ := bkG_some h1
    show bkG H' (.ref t) :: xs.map (bkG H') = some g :: gs.map some
    rw [bkG_of (k t _ e), show xs.map (bkG H') = gs.map some from P3.kt (gs := gs) k h2]
theorem P3.snoc {H : Hp} {xs : List V} {gs : List G3} {t : Addr} {g : G3} (h : P3 H xs gs) (e : H t = some (.tup (vsG g))) : P3 H (xs ++ [.ref t]) (gs ++ [g]) := by
  unfold P3
  rw [List.map_append, List.map_append, show xs.map (bkG H) = gs.map some from h, List.map_cons, bkG_of e]
  rfl
theorem P3.len {H : Hp} {xs : List V} {gs : List G3} (h : P3 H xs gs) : xs.length = gs.length := by
  have e := congrArg List.length h
  rwa [List.length_map, List.length_map] at e
theorem fm_some : ∀ gs : List G3, List.filterMap id (gs.map some) = gs
  | [] => rfl
  | g :: gs => by
    rw [List.map_cons, List.filterMap_cons]
    show g :: List.filterMap id (gs.map some) = g :: gs
    rw [fm_some gs]
theorem P3.perm {H : Hp} {xs ys : List V} {gs : List G3} (h : P3 H xs gs) (p : ys.Perm xs) : ∃ gs', P3 H ys gs' ∧ gs'.Perm gs := by
  have q : (ys.map (bkG H)).Perm (gs.map some) := by
    rw [← show xs.map (bkG H) = gs.map some from h]
    exact p.map _
  have all : ∀ x ∈ ys.map (bkG H), ∃ g, x = some g := fun x hx => by
    obtain ⟨g, _, e⟩ := List.mem_map.mp (q.mem_iff.mp hx)
    exact ⟨g, e.symm⟩
  refine ⟨(ys.map (bkG H)).filterMap id, ?_, ?_⟩
  · show ys.map (bkG H) = _
    generalize ys.map (bkG H) = l at all
    induction l with
    | nil => rfl
    | cons x l ih =>
      obtain ⟨g, rfl⟩ := all x List.mem_cons_self
      rw [List.filterMap_cons]
      show some g :: l = some g :: (l.filterMap id).map some
      rw [← ih fun y hy => all y (List.mem_cons_of_mem _ hy)]
  · have z := q.filterMap id
    rw [fm_some] at z
    exact z
theorem P3.rs {cl : Nat → Addr} {h c : Addr} {H : Hp} (hd : Hd h c H) : ∀ {xs : List V} {gs : List G3}, P3 H xs gs → Rs cl h H xs (gs.map dG)
  | [], [], _ => .nil
  | [], _ :: _, h => by cases h
  | _ :: _, [], h => by cases h
  | x :: xs, g :: gs, e => by
    have e' : bkG H x :: xs.map (bkG H) = some g :: gs.map some := e
    obtain ⟨h1, h2⟩ := List.cons.inj e'
    obtain ⟨t, rfl, ht⟩ := bkG_some h1
    refine .cons (.tup (fun z => ?_) ht (.cons (.int _) (.cons (.int _) (.cons (.int _) .nil)))) (P3.rs hd h2)
    obtain ⟨_, _, _, _, _, _, q, _⟩ := hd
    rw [z, q] at ht
    cases ht
/-- sorted: rows by their ints -/
theorem asc_of {H : Hp} : ∀ {ys : List V} {gs : List G3}, P3 H ys gs → SrtO.Srtd (fun x y => lexI (((bkG H x).map rwG).getD []) (((bkG H y).map rwG).getD [])) ys → (gs.map prG).Nodup → gs.Pairwise ltG
  | [], [], _, _, _ => .nil
  | [], _ :: _, h, _, _ => by cases h
  | _ :: _, [], h, _, _ => by cases h
  | y :: ys, g :: gs, e, s, nd => by
    have e' : bkG H y :: ys.map (bkG H) = some g :: gs.map some := e
    obtain ⟨h1, h2⟩ := List.cons.inj e'
    have s' := List.pairwise_cons.mp s
    rw [List.map_cons, List.nodup_cons] at nd
    refine List.pairwise_cons.mpr ⟨fun u hu => ?_, asc_of h2 s'.2 nd.2⟩
    have hm : some u ∈ ys.map (bkG H) := by
      rw [h2]
      exact List.mem_map_of_mem hu
    obtain ⟨w, hw, ew⟩ := List.mem_map.mp hm
    have q := s'.1 w hw
    simp only [ew, h1, Option.map_some, Option.getD_some] at q
    have ne : prG g ≠ prG u := fun z => nd.1 (z ▸ List.mem_map_of_mem (f := prG) hu)
    have q' : (if u.1 = g.1 then (if u.2.1 = g.2.1 then (if u.2.2 = g.2.2 then lexI [] [] else decide (u.2.2 < g.2.2)) else decide (u.2.1 < g.2.1)) else decide (u.1 < g.1)) = false := q
    unfold ltG
    by_cases z1 : u.1 = g.1
    · rw [if_pos z1] at q'
      by_cases z2 : u.2.1 = g.2.1
      · exact absurd (by unfold prG; rw [z1, z2]) ne
      · rw [if_neg z2] at q'
        have := of_decide_eq_false q'
        omega
    · rw [if_neg z1] at q'
      have := of_decide_eq_false q'
      omega
theorem z_sortG {K : PySem.W.Frag} {H : Hp} {a : Addr} {xs : List V} {gs : List G3} {Q : VK} (e : H a = some (.lst xs)) (p3 : P3 H xs gs) (nd : (gs.map prG).Nodup)
    (k : ∀ p ys gs', H p = none → gs'.Perm gs → gs'.Pairwise ltG → P3 H ys gs' → Q (.ref p) (upd H p (.lst ys))) : rSortI K [.ref a] H Q := by
  refine ⟨a, xs, fun x => ((bkG H x).map rwG).getD [], rfl, SqL.of e, fun x hx => ?_, fun ys p s pm n => ?_⟩
  · have hm : bkG H x ∈ gs.map some := by
      rw [← show xs.map (bkG H) = gs.map some from p3]
      exact List.mem_map_of_mem hx
    obtain ⟨g, _, eg⟩ := List.mem_map.mp hm
    obtain ⟨t, rfl, ht⟩ := bkG_some eg.symm
    refine ⟨t, rfl, ?_, ?_⟩
    · show ((bkG H (.ref t)).map rwG).getD [] ≠ []
      rw [← eg]
      exact List.cons_ne_nil _ _
    · show H t = some (.tup ((((bkG H (.ref t)).map rwG).getD []).map V.int))
      rw [← eg]
      exact ht
  · obtain ⟨gs', h1, h2⟩ := p3.perm pm
    exact k p ys gs' n h2 (asc_of h1 s ((h2.map prG).nodup_iff.mpr nd)) h1
theorem z_ixA {K : PySem.W.Frag} {H : Hp} {Q : VK} {p : Addr} {xs : List V} {i : Int} (e : H p = some (.lst xs)) (i0 : 0 ≤ i) (i1 : i < (xs.length : Nat)) (k : ∀ v ∈ xs, Q v H) : rIxL K (.ref p) (.int i) H Q := by
  have hi : i.toNat < xs.length := by omega
  have a : atI xs i = some xs[i.toNat] := by
    have z := atI_nat (xs := xs) (j := i.toNat) (v := xs[i.toNat]) (List.getElem?_eq_getElem hi)
    rwa [Int.toNat_of_nonneg i0] at z
  exact z_ixL (SqL.of e) a (k _ (List.getElem_mem hi))
theorem z_lockE {t : TE} {σ : L2.St} {H : Hp} {Q : VK} {d : Addr} {u : HO} (e : H d = some u) (m : Mut (some u)) (h : ∀ od, t σ (upd H d (.frz od u)) fun v H' => H' d = some (.frz od u) ∧ Q v (upd H' d u)) : tLockE t σ H Q := ⟨d, u, e, m, h⟩
theorem z_iK {td : TE} {σ : L2.St} {H : Hp} {q : It → Hp → Prop} (h : td σ H fun x H1 => ∃ d o, x = .ref d ∧ ((∃ kvs, H1 d = some (.frz o (.dK kvs)) ∧ q (Itk d o kvs) H1) ∨ ∃ kvs, H1 d = some (.frz o (.dT kvs)) ∧ q (Itkt d o kvs) H1)) : iKeys td σ H q := h
theorem z_dget {td ty : TE} {σ : L2.St} {H : Hp} {Q : VK} (h : td σ H fun x H1 => ty σ H1 fun y H2 => ∃ a v, x = .ref a ∧ DGet H2 a y (some v) ∧ Q v H2) : tDGet td ty σ H Q := h
theorem z_dput {td ty tv : TE} {D : Ends} {σ : L2.St} {H : Hp} (h : tv σ H fun v H1 => td σ H1 fun x H2 => ty σ H2 fun y H3 => ∃ a H4, x = .ref a ∧ DPut H3 a y v H4 ∧ D.nx σ H4) : sDPut td ty tv D σ H := h

/-! ### what a standing's groups are, of whatever data -/
def Dt.tupn (n : Nat) : Dt → Bool | .tup l => decide (l.length = n) | _ => false
theorem Dt.of_tupn {n : Nat} {d : Dt} (h : d.tupn n = true) : ∃ l, d = .tup l ∧ l.length = n := by
  cases d with
  | tup l => exact ⟨l, rfl, of_decide_eq_true h⟩
  | _ => exact Bool.noConfusion h
theorem len3 {α : Type} {l : List α} (h : l.length = 3) : ∃ a b c, l = [a, b, c] := by
  match l, h with
  | [a, b, c], _ => exact ⟨a, b, c, rfl⟩
theorem Dt.bet_int {a b : Int} {d : Dt} (h : d.bet a b = true) : ∃ i, d = .int i ∧ a ≤ i ∧ i ≤ b := by
  cases d with
  | int i =>
    have z : (decide (a ≤ i) && decide (i ≤ b)) = true := h
    rw [Bool.and_eq_true, decide_eq_true_iff, decide_eq_true_iff] at z
    exact ⟨i, rfl, z.1, z.2⟩
  | _ => exact Bool.noConfusion h
theorem Dt.frm_int {a : Int} {d : Dt} (h : d.frm a = true) : ∃ i, d = .int i ∧ a ≤ i := by
  cases d with
  | int i => exact ⟨i, rfl, of_decide_eq_true h⟩
  | _ => exact Bool.noConfusion h
def Dt.isG (f : Int) : Dt → Bool
  | .tup [a, b, c] => a.bet 0 (f - 1) && b.bet 0 (f - 1) && c.frm 1
  | _ => false
theorem Dt.isG_tupn {f : Int} {d : Dt} (h : d.tupn 3 = false) : d.isG f = false := by
  cases d with
  | tup l =>
    have z := of_decide_eq_false (show decide (l.length = 3) = false from h)
    match l, z with
    | [], _ => rfl
    | [_], _ => rfl
    | [_, _], _ => rfl
    | [_, _, _], z => exact absurd rfl z
    | _ :: _ :: _ :: _ :: _, _ => rfl
  | _ => rfl
theorem Dt.isG_int {f : Int} {d : Dt} (h : d.isG f = true) : ∃ g : G3, d = dG g ∧ 0 ≤ g.1 ∧ g.1 < f ∧ 0 ≤ g.2.1 ∧ g.2.1 < f ∧ 1 ≤ g.2.2 := by
  unfold Dt.isG at h
  split at h
  · rw [Bool.and_eq_true, Bool.and_eq_true] at h
    obtain ⟨a, rfl, a1, a2⟩ := Dt.bet_int h.1.1
    obtain ⟨b, rfl, b1, b2⟩ := Dt.bet_int h.1.2
    obtain ⟨c, rfl, c1⟩ := Dt.frm_int h.2
    exact ⟨(a, b, c), rfl, a1, by show a < f; omega, b1, by show b < f; omega, c1⟩
  · cases h
/-- from this pair on -/
def gtP (a b x y : Int) : Bool := !(decide (a < x ∨ (a = x ∧ b ≤ y)))
def scan (f : Int) : Int → Int → List Dt → Bool
  | _, _, [] => true
  | x, y, d :: l => match d with
    | .tup [.int a, .int b, .int c] => (Dt.isG f (.tup [.int a, .int b, .int c]) && decide (c ≤ 1000000000000000000000000000000) && gtP a b x y) && scan f a b l
    | _ => false
def Dt.isGs (f : Int) : Dt → Bool | .tup l => decide (l.length ≤ 400) && scan f (-1) (-1) l | _ => false
theorem scan_no {f x y : Int} {d : Dt} {l : List Dt} (h : d.isG f = false) : scan f x y (d :: l) = false := by
  unfold scan
  split
  · rename_i a b c
    rw [h]
    rfl
  · rfl
theorem scan_cons {f x y : Int} {g : G3} {l : List Dt} (h : (dG g).isG f = true) : scan f x y (dG g :: l) = ((decide (g.2.2 ≤ 1000000000000000000000000000000) && gtP g.1 g.2.1 x y) && scan f g.1 g.2.1 l) := by
  show ((Dt.isG f (.tup [.int g.1, .int g.2.1, .int g.2.2]) && decide (g.2.2 ≤ 1000000000000000000000000000000) && gtP g.1 g.2.1 x y) && scan f g.1 g.2.1 l) = _
  rw [show Dt.isG f (.tup [.int g.1, .int g.2.1, .int g.2.2]) = true from h]
  simp
theorem okG_isG {f : Int} {g : G3} (k : okG f g) : (dG g).isG f = true := by
  show ((Dt.int g.1).bet 0 (f - 1) && (Dt.int g.2.1).bet 0 (f - 1) && (Dt.int g.2.2).frm 1) = true
  have e1 : (Dt.int g.1).bet 0 (f - 1) = true := by
    show (decide (0 ≤ g.1) && decide (g.1 ≤ f - 1)) = true
    rw [decide_eq_true k.1, decide_eq_true (by have := k.2.1; omega)]
    rfl
  have e2 : (Dt.int g.2.1).bet 0 (f - 1) = true := by
    show (decide (0 ≤ g.2.1) && decide (g.2.1 ≤ f - 1)) = true
    rw [decide_eq_true k.2.2.1, decide_eq_true (by have := k.2.2.2.1; omega)]
    rfl
  have e3 : (Dt.int g.2.2).frm 1 = true := decide_eq_true k.2.2.2.2.1
  rw [e1, e2, e3]
  rfl
theorem scan_ok {f : Int} : ∀ {gs : List G3} {x y : Int}, (∀ g ∈ gs, okG f g) → gs.Pairwise ltG → (∀ g ∈ gs, x < g.1 ∨ (x = g.1 ∧ y < g.2.1)) → scan f x y (gs.map dG) = true
  | [], _, _, _, _, _ => rfl
  | g :: gs, x, y, el, asc, ah => by
    have p := List.pairwise_cons.mp asc
    have kg := el g List.mem_cons_self
    have h0 := ah g List.mem_cons_self
    rw [List.map_cons, scan_cons (okG_isG kg), decide_eq_true kg.2.2.2.2.2, scan_ok (fun u hu => el u (List.mem_cons_of_mem _ hu)) p.2 (fun u hu => p.1 u hu)]
    have e : gtP g.1 g.2.1 x y = true := by
      unfold gtP
      rw [decide_eq_false (by omega)]
      rfl
    rw [e]
    rfl
theorem Gs.isGs {f : Int} {gs : List G3} (h : Gs f gs) : (Dt.tup (gs.map dG)).isGs f = true := by
  show (decide ((gs.map dG).length ≤ 400) && scan f (-1) (-1) (gs.map dG)) = true
  rw [List.length_map, decide_eq_true h.len, scan_ok h.el h.asc fun g hg => .inl (by have := (h.el g hg).1; omega)]
  rfl
theorem z_leT2 {K : PySem.W.Frag} {H : Hp} {Q : VK} {p q : Addr} {a b x y : Int} (e1 : H p = some (.tup [.int a, .int b])) (e2 : H q = some (.tup [.int x, .int y])) (k : Q (.bl (!gtP a b x y)) H) : rLeT K (.ref p) (.ref q) H Q := by
  refine ⟨p, q, [a, b], [x, y], rfl, rfl, SqT.of e1, SqT.of e2, ?_⟩
  have e : Ob.lexAt (fun j => decide (([a, b] : List Int).getD j 0 = ([x, y] : List Int).getD j 0)) (fun j => decide (([a, b] : List Int).getD j 0 ≤ ([x, y] : List Int).getD j 0)) (decide (([a, b] : List Int).length ≤ ([x, y] : List Int).length)) 0 (min ([a, b] : List Int).length ([x, y] : List Int).length) = !gtP a b x y := by
    show (if decide (a = x) = true then (if decide (b = y) = true then true else decide (b ≤ y)) else decide (a ≤ x)) = !(!(decide (a < x ∨ (a = x ∧ b ≤ y))))
    rw [Bool.not_not]
    by_cases h1 : a = x
    · rw [decide_eq_true h1, if_pos rfl]
      by_cases h2 : b = y
      · rw [decide_eq_true h2, if_pos rfl, decide_eq_true (by omega)]
      · rw [decide_eq_false h2, if_neg Bool.false_ne_true, Bool.eq_iff_iff, decide_eq_true_iff, decide_eq_true_iff]
        omega
    · rw [decide_eq_false h1, if_neg Bool.false_ne_true, Bool.eq_iff_iff, decide_eq_true_iff, decide_eq_true_iff]
      omega
  rw [e]
  exact k
theorem z_slT2 {K : PySem.W.Frag} {H : Hp} {Q : VK} {a : Addr} {x y z : V} (e : H a = some (.tup [x, y, z])) (k : ∀ p, H p = none → Q (.ref p) (upd H p (.tup [x, y]))) : rSlT K (.ref a) none (some 2) H Q :=
  ⟨a, _, rfl, SqT.of e, by show ¬ (HT.sIx 3 0 none = 0 ∧ HT.sIx 3 3 (some 2) = 3); decide, k⟩
/-! ### tuples of ints, >= -/
def rGeT (K : PySem.W.Frag) : R2 := fun x y H Q => ∃ (a b : Addr) (ns ms : List Int), x = .ref a ∧ y = .ref b ∧ SqT K H a (ns.map V.int) ∧ SqT K H b (ms.map V.int) ∧
  Q (.bl (Ob.lexAt (fun j => decide (ns.getD j 0 = ms.getD j 0)) (fun j => decide (ms.getD j 0 ≤ ns.getD j 0)) (decide (ns.length ≥ ms.length)) 0 (min ns.length ms.length))) H
theorem op_geT {X : Cx} (hu : X.A.units < cLine) : OpR X (compareOp .GtE) (rGeT X.K) := by
  intro pins s σ H x y v u Q I rx ry h
  obtain ⟨a, b, ns, ms, rfl, rfl, ha, hb, q⟩ := h
  cases rx
  cases ry
  obtain ⟨its, r1, p1, _⟩ := I.tuple ha
  obtain ⟨its2, r2, p2, _⟩ := I.tuple hb
  have i1 : IntsAre its ns := Vals.ints r1
  have i2 : IntsAre its2 ms := Vals.ints r2
  have e1 : its.toArray.size = ns.length := by rw [List.size_toArray]; exact i1.length
  have e2 : its2.toArray.size = ms.length := by rw [List.size_toArray]; exact i2.length
  have at1 : ∀ j (h1 : j < its.toArray.size), ∃ t, its.toArray[j] = .int (ns.getD j 0) t := fun j h1 => PyProof.Rows.IntsAre.int_at i1 _ _ (by simp at h1; simp [h1])
  have at2 : ∀ j (h1 : j < its2.toArray.size), ∃ t, its2.toArray[j] = .int (ms.getD j 0) t := fun j h1 => PyProof.Rows.IntsAre.int_at i2 _ _ (by simp at h1; simp [h1])
  have R := Ob.RcOp.tuples_ge (A := X.A) (s := s) (e := fun j => decide (ns.getD j 0 = ms.getD j 0)) (r := fun j => decide (ms.getD j 0 ≤ ns.getD j 0)) p1 p2 hu
    (fun j h1 h2 => by
      obtain ⟨t, et⟩ := at1 j h1
      obtain ⟨t', et'⟩ := at2 j h2
      rw [et, et', show decide (ns.getD j 0 = ms.getD j 0) = (ns.getD j 0 == ms.getD j 0) from by rw [Bool.eq_iff_iff, decide_eq_true_iff, beq_iff_eq]]
      exact SeqAt.EqAt.int_int _ _ _ _)
    (fun j h1 h2 _ => by
      obtain ⟨t, et⟩ := at1 j h1
      obtain ⟨t', et'⟩ := at2 j h2
      rw [et, et']
      exact Ob.RcOp.ge_int _ _ _ _)
  rw [e1, e2] at R
  exact R X.prog X.w X.xe (EP X pins σ Q) ⟨.bl _, H, I, rfl, q⟩
theorem z_geT2 {K : PySem.W.Frag} {H : Hp} {Q : VK} {p q : Addr} {a b x y : Int} (e1 : H p = some (.tup [.int x, .int y])) (e2 : H q = some (.tup [.int a, .int b])) (k : Q (.bl (!gtP a b x y)) H) : rGeT K (.ref p) (.ref q) H Q := by
  refine ⟨p, q, [x, y], [a, b], rfl, rfl, SqT.of e1, SqT.of e2, ?_⟩
  have e : Ob.lexAt (fun j => decide (([x, y] : List Int).getD j 0 = ([a, b] : List Int).getD j 0)) (fun j => decide (([a, b] : List Int).getD j 0 ≤ ([x, y] : List Int).getD j 0)) (decide (([x, y] : List Int).length ≥ ([a, b] : List Int).length)) 0 (min ([x, y] : List Int).length ([a, b] : List Int).length) = !gtP a b x y := by
    show (if decide (x = a) = true then (if decide (y = b) = true then true else decide (b ≤ y)) else decide (a ≤ x)) = !(!(decide (a < x ∨ (a = x ∧ b ≤ y))))
    rw [Bool.not_not]
    by_cases h1 : x = a
    · rw [decide_eq_true h1, if_pos rfl]
      by_cases h2 : y = b
      · rw [decide_eq_true h2, if_pos rfl, decide_eq_true (by omega)]
      · rw [decide_eq_false h2, if_neg Bool.false_ne_true, Bool.eq_iff_iff, decide_eq_true_iff, decide_eq_true_iff]
        omega
    · rw [decide_eq_false h1, if_neg Bool.false_ne_true, Bool.eq_iff_iff, decide_eq_true_iff, decide_eq_true_iff]
      omega
  rw [e]
  exact k
/-- a law's own look at a group -/
def Dt.isG4 (f : Int) : Dt → Bool
  | .tup [a, b, c] => a.bet 0 (f - 1) && b.bet 0 (f - 1) && c.bet 1 10000000000000000000000000000000000000000
  | _ => false
theorem Dt.isG4_int {f : Int} {d : Dt} (h : d.isG4 f = true) : ∃ g : G3, d = dG g ∧ (dG g).isG f = true := by
  unfold Dt.isG4 at h
  split at h
  · rw [Bool.and_eq_true, Bool.and_eq_true] at h
    have h1 := h.1.1
    have h2 := h.1.2
    obtain ⟨a, rfl, a1, a2⟩ := Dt.bet_int h1
    obtain ⟨b, rfl, b1, b2⟩ := Dt.bet_int h2
    obtain ⟨c, rfl, c1, c2⟩ := Dt.bet_int h.2
    refine ⟨(a, b, c), rfl, ?_⟩
    show ((Dt.int a).bet 0 (f - 1) && (Dt.int b).bet 0 (f - 1) && (Dt.int c).frm 1) = true
    rw [h1, h2, show (Dt.int c).frm 1 = true from decide_eq_true c1]
    rfl
  · cases h
theorem scan_no4 {f x y : Int} {d : Dt} {l : List Dt} (h : d.isG4 f = false) : scan f x y (d :: l) = false := by
  unfold scan
  split
  · rename_i a b c
    by_cases q : c ≤ 1000000000000000000000000000000
    · have e : Dt.isG f (.tup [.int a, .int b, .int c]) = false := by
        show ((Dt.int a).bet 0 (f - 1) && (Dt.int b).bet 0 (f - 1) && (Dt.int c).frm 1) = false
        have h' : ((Dt.int a).bet 0 (f - 1) && (Dt.int b).bet 0 (f - 1) && (Dt.int c).bet 1 10000000000000000000000000000000000000000) = false := h
        have e2 : (Dt.int c).bet 1 10000000000000000000000000000000000000000 = (Dt.int c).frm 1 := by
          show (decide (1 ≤ c) && decide (c ≤ 10000000000000000000000000000000000000000)) = decide (1 ≤ c)
          rw [decide_eq_true (show c ≤ 10000000000000000000000000000000000000000 by omega), Bool.and_true]
        rw [← e2]
        exact h'
      rw [e]
      rfl
    · rw [decide_eq_false q]
      simp
  · rfl
theorem Dt.isG4_tupn {f : Int} {d : Dt} (h : d.tupn 3 = false) : d.isG4 f = false := by
  cases d with
  | tup l =>
    have z := of_decide_eq_false (show decide (l.length = 3) = false from h)
    match l, z with
    | [], _ => rfl
    | [_], _ => rfl
    | [_, _], _ => rfl
    | [_, _, _], z => exact absurd rfl z
    | _ :: _ :: _ :: _ :: _, _ => rfl
  | _ => rfl
theorem dG_inj0 {g u : G3} (h : dG g = dG u) : g = u := by
  obtain ⟨a, b, c⟩ := g
  obtain ⟨a', b', c'⟩ := u
  injection h with h
  injection h with h1 h
  injection h with h2 h
  injection h with h3 _
  injection h1 with h1
  injection h2 with h2
  injection h3 with h3
  subst h1 h2 h3
  rfl
end Zo

namespace Zo
open PySem L2 PySem.Spec PyProof.Rows
/-! ### groups compared -/
def pd3 (g : G3) : PyData := .tuple [.int g.1, .int g.2.1, .int g.2.2]
def pdG (gs : List G3) : PyData := .tuple (gs.map pd3)
theorem pd3_depth (g : G3) : (pd3 g).depth ≤ 2 := by simp [pd3, PyData.depth, PyData.depthAll]
theorem pds_depth : ∀ gs : List G3, PyData.depthAll (gs.map pd3) ≤ 2
  | [] => by simp [PyData.depthAll]
  | g :: gs => by
    have h1 := pds_depth gs
    have h2 := pd3_depth g
    simp only [List.map_cons, PyData.depthAll]
    omega
theorem pds_lay : ∀ gs : List G3, PyData.canLayAll0 (gs.map pd3) = true
  | [] => by simp [PyData.canLayAll0]
  | g :: gs => by simp [PyData.canLayAll0, pd3, PyData.canLay0, pds_lay gs]
theorem pdG_shaped (gs : List G3) : SeqAt.shaped (pdG gs) = true := by
  have h1 := pds_depth gs
  have h2 : PyData.depth (pdG gs) ≤ 64 := by
    simp only [pdG, PyData.depth]
    omega
  show (PyData.canLay0 (pdG gs) && decide (PyData.depth (pdG gs) ≤ 64)) = true
  rw [Bool.and_eq_true]
  exact ⟨by simp only [pdG, PyData.canLay0]; exact pds_lay gs, decide_eq_true h2⟩
theorem pd3_eqv (g u : G3) : PyData.eqv (pd3 g) (pd3 u) = decide (g = u) := by
  obtain ⟨a, b, c⟩ := g
  obtain ⟨a', b', c'⟩ := u
  have e : PyData.eqv (pd3 (a, b, c)) (pd3 (a', b', c')) = ((a == a') && ((b == b') && ((c == c') && true))) := by simp only [pd3, PyData.eqv, PyData.eqvAll]
  rw [e, Bool.eq_iff_iff, decide_eq_true_iff]
  simp
theorem pds_eqv : ∀ gs us : List G3, PyData.eqvAll (gs.map pd3) (us.map pd3) = decide (gs = us)
  | [], [] => by simp [PyData.eqvAll]
  | [], _ :: _ => by simp [PyData.eqvAll]
  | _ :: _, [] => by simp [PyData.eqvAll]
  | g :: gs, u :: us => by
    simp only [List.map_cons, PyData.eqvAll]
    rw [pd3_eqv, pds_eqv gs us, Bool.eq_iff_iff, Bool.and_eq_true, decide_eq_true_iff, decide_eq_true_iff, decide_eq_true_iff, List.cons.injEq]
theorem pdG_eqv (gs us : List G3) : PyData.eqv (pdG gs) (pdG us) = decide (gs = us) := by
  simp only [pdG, PyData.eqv]
  exact pds_eqv gs us
section
variable {K : PySem.W.Frag} {cl : Nat → Addr} {h : Addr} {H : Hp}
theorem dpAll_G : ∀ {gs : List G3} {vs : List V}, Rs cl h H vs (gs.map dG) → DpAll K H vs (gs.map pd3)
  | [], _, .nil => .nil
  | g :: gs, _, .cons r t => by
    obtain ⟨a, vs, rfl, _, e, s⟩ := r.tup_inv
    obtain ⟨_, _, _, rfl, q1, q2, q3⟩ := s.three
    cases q1
    cases q2
    cases q3
    exact .cons (.tup (SqT.of e) (.cons (.int _) (.cons (.int _) (.cons (.int _) .nil)))) (dpAll_G t)
theorem dp_G {gs : List G3} {v : V} (r : R cl h H v (.tup (gs.map dG))) : Dp K H v (pdG gs) := by
  obtain ⟨a, vs, rfl, _, e, s⟩ := r.tup_inv
  exact .tup (SqT.of e) (dpAll_G s)
theorem z_eqG {gs us : List G3} {v w : V} {Q : VK} (r : R cl h H v (.tup (gs.map dG))) (s : R cl h H w (.tup (us.map dG))) (k : Q (.bl (decide (gs = us))) H) : rEqD K v w H Q :=
  ⟨_, _, dp_G r, dp_G s, pdG_shaped gs, pdG_shaped us, by rw [pdG_eqv]; exact k⟩
theorem z_neG {gs us : List G3} {v w : V} {Q : VK} (r : R cl h H v (.tup (gs.map dG))) (s : R cl h H w (.tup (us.map dG))) (k : Q (.bl (!decide (gs = us))) H) : rNeD K v w H Q :=
  ⟨_, _, dp_G r, dp_G s, pdG_shaped gs, pdG_shaped us, by rw [pdG_eqv]; exact k⟩
end
/-- a standing -/
abbrev Dt.stn (f r l : Int) (gs : List G3) : Dt := .ins 1 ["house", "lift", "groups"] [.hou f r, .int l, .tup (gs.map dG)]
theorem dG_inj {g u : G3} (h : dG g = dG u) : g = u := by
  obtain ⟨a, b, c⟩ := g
  obtain ⟨a', b', c'⟩ := u
  injection h with h
  injection h with h1 h
  injection h with h2 h
  injection h with h3 _
  injection h1 with h1
  injection h2 with h2
  injection h3 with h3
  subst h1 h2 h3
  rfl
theorem dGs_inj : ∀ {gs us : List G3}, gs.map dG = us.map dG → gs = us
  | [], [], _ => rfl
  | [], _ :: _, h => by cases h
  | _ :: _, [], h => by cases h
  | g :: gs, u :: us, h => by
    injection h with h1 h2
    rw [dG_inj h1, dGs_inj h2]
theorem stn_inj {f r l f' r' l' : Int} {gs gs' : List G3} : Dt.stn f r l gs = Dt.stn f' r' l' gs' ↔ f = f' ∧ r = r' ∧ l = l' ∧ gs = gs' := by
  constructor
  · intro z
    injection z with _ _ y
    injection y with y1 y
    injection y with y2 y
    injection y with y3 _
    injection y1 with _ _ y1
    injection y1 with a1 y1
    injection y1 with a2 _
    injection a1 with a1
    injection a2 with a2
    injection y2 with y2
    injection y3 with y3
    exact ⟨a1, a2, y2, dGs_inj y3⟩
  · rintro ⟨rfl, rfl, rfl, rfl⟩
    rfl
theorem RS.stn_inv {cl : Nat → Addr} {h : Addr} {H : Hp} {v : V} {f r l : Int} {gs : List G3} (x : R cl h H v (.stn f r l gs)) : ∃ a dx hv gv, v = .ref a ∧ a ≠ h ∧ H a = some (.ins (cl 1) dx [("house", hv), ("lift", .int l), ("groups", gv)]) ∧ R cl h H hv (.hou f r) ∧ R cl h H gv (.tup (gs.map dG)) := by
  obtain ⟨a, dx, vs, rfl, na, e, s, _⟩ := x.ins_inv
  obtain ⟨hv, lv, gv, rfl, r1, r2, r3⟩ := s.three
  cases r2
  exact ⟨a, dx, hv, gv, rfl, na, e, r1, r3⟩
theorem RS.hou_inv {cl : Nat → Addr} {h : Addr} {H : Hp} {v : V} {f r : Int} (x : R cl h H v (.hou f r)) : ∃ a dx, v = .ref a ∧ a ≠ h ∧ H a = some (.ins (cl 0) dx [("floors", .int f), ("room", .int r)]) := by
  obtain ⟨a, dx, vs, rfl, na, e, s, _⟩ := x.ins_inv
  obtain ⟨_, _, rfl, r1, r2⟩ := s.two
  cases r1
  cases r2
  exact ⟨a, dx, rfl, na, e⟩
theorem scan_G : ∀ {l : List Dt} {f x y : Int}, scan f x y l = true → ∃ gs : List G3, l = gs.map dG
  | [], _, _, _, _ => ⟨[], rfl⟩
  | d :: l, f, x, y, h => by
    by_cases e : d.isG f = true
    · obtain ⟨g, rfl, _⟩ := Dt.isG_int e
      rw [scan_cons e, Bool.and_eq_true] at h
      obtain ⟨gs, rfl⟩ := scan_G h.2
      exact ⟨g :: gs, rfl⟩
    · rw [scan_no (by simpa using e)] at h
      cases h
theorem isGs_G {f : Int} {d : Dt} (h : d.isGs f = true) : ∃ gs : List G3, d = .tup (gs.map dG) := by
  cases d with
  | tup l =>
    have z : (decide (l.length ≤ 400) && scan f (-1) (-1) l) = true := h
    rw [Bool.and_eq_true] at z
    obtain ⟨gs, rfl⟩ := scan_G z.2
    exact ⟨gs, rfl⟩
  | _ => exact Bool.noConfusion h
/-- the row at a place -/
theorem rs_at3 {cl : Nat → Addr} {h : Addr} {H : Hp} {vs : List V} {gs : List G3} {i : Nat} {x : V} (r : Rs cl h H vs (gs.map dG)) (e : vs[i]? = some x) : ∃ g t, gs[i]? = some g ∧ x = .ref t ∧ t ≠ h ∧ H t = some (.tup (vsG g)) := by
  obtain ⟨d, hd, rd⟩ := r.atV e
  rw [List.getElem?_map] at hd
  cases hg : gs[i]? with
  | none => rw [hg] at hd; cases hd
  | some g =>
    rw [hg] at hd
    cases hd
    obtain ⟨t, us, rfl, nt, et, s⟩ := rd.tup_inv
    obtain ⟨_, _, _, rfl, q1, q2, q3⟩ := s.three
    cases q1
    cases q2
    cases q3
    exact ⟨g, t, rfl, rfl, nt, et⟩
theorem putF_hit (f : Str) (v w : V) (l : List (Str × V)) : putF f v ((f, w) :: l) = (f, v) :: l := by
  show (if f = f then _ else _) = _
  rw [if_pos rfl]
/-- not home -/
def awayG (g : G3) : Bool := !decide (g.1 = g.2.1)
theorem awayG_t {g : G3} (h : ¬ g.1 = g.2.1) : [g].filter awayG = [g] := by
  rw [List.filter_cons_of_pos (show awayG g = true from by unfold awayG; rw [decide_eq_false h]; rfl)]
  rfl
theorem awayG_f {g : G3} (h : g.1 = g.2.1) : [g].filter awayG = [] := by
  rw [List.filter_cons_of_neg (show ¬ awayG g = true from by unfold awayG; rw [decide_eq_true h]; decide)]
  rfl
end Zo

namespace Zo
open PySem L2 PySem.Spec PyProof.Rows
/-! ### data over a set of places -/
structure Sx (S : Addr → Prop) (h : Addr) (H : Hp) : Prop where
  ne : ∀ a, S a → a ≠ h
  nw : ∀ a, H a = none → S a
section
variable {cl : Nat → Addr} {S : Addr → Prop} {h c p : Addr} {H H' : Hp} {v : V} {vs : List V} {d : Dt} {ds es : List Dt} {Q : VK}
theorem Sx.go (x : Sx S h H) (hd : Hd h c H) (g : Go h c H H') : Sx S h H' := ⟨x.ne, fun a n => x.nw a (g.back hd n)⟩
theorem RS.go (x : Sx S h H) (g : Go h c H H') (r : RS cl S H v d) : RS cl S H' v d := RS.to (fun a o s e => ⟨s, g.1 a o (x.ne a s) e⟩) r
theorem RSs.go (x : Sx S h H) (g : Go h c H H') (r : RSs cl S H vs ds) : RSs cl S H' vs ds := RSs.to (fun a o s e => ⟨s, g.1 a o (x.ne a s) e⟩) r
theorem RS.all (x : Sx S h H) (r : RS cl S H v d) : R cl h H v d := RS.to (fun a _ s e => ⟨x.ne a s, e⟩) r
theorem z_newTS (hd : Hd h c H) (x : Sx S h H) (rs : RSs cl S H vs ds) (k : ∀ p H', Go h c H H' → Sx S h H' → H p = none → RS cl S H' (.ref p) (.tup ds) → Q (.ref p) H') (l : vs.length ≤ 1000000 := by exact Nat.le_of_ble_eq_true rfl) :
    newT Q vs H := ⟨sz1000 l, fun p n => k p _ (Go.new hd n) (x.go hd (Go.new hd n)) n (.tup (x.nw p n) upd_same (RSs.go x (Go.new hd n) rs))⟩
theorem z_newLS (hd : Hd h c H) (x : Sx S h H) (rs : RSs cl S H vs ds) (k : ∀ p H', Go h c H H' → Sx S h H' → H p = none → RS cl S H' (.ref p) (.lst ds) → Q (.ref p) H') (l : vs.length ≤ 1000000 := by exact Nat.le_of_ble_eq_true rfl) :
    newL Q vs H := ⟨sz1000 l, fun p n => k p _ (Go.new hd n) (x.go hd (Go.new hd n)) n (.lst (x.nw p n) upd_same (RSs.go x (Go.new hd n) rs))⟩
theorem z_newDS {σ : L2.St} (hd : Hd h c H) (x : Sx S h H) (k : ∀ p H', Go h c H H' → Sx S h H' → H p = none → RS cl S H' (.ref p) (.dct [] []) → Q (.ref p) H') : tDNewK σ H Q := fun p n =>
  k p _ (Go.new hd n) (x.go hd (Go.new hd n)) n (.dct (vs := []) (x.nw p n) upd_same rfl .nil)
theorem RSs.app2 : ∀ {vs ws : List V} {ds es : List Dt}, RSs cl S H vs ds → RSs cl S H ws es → RSs cl S H (vs ++ ws) (ds ++ es)
  | _, _, _, _, .nil, s => s
  | _, _, _, _, .cons r t, s => .cons r (RSs.app2 t s)
theorem RSs.len2 : ∀ {vs : List V} {ds : List Dt}, RSs cl S H vs ds → vs.length = ds.length
  | _, _, .nil => rfl
  | _, _, .cons _ t => by rw [List.length_cons, List.length_cons, RSs.len2 t]
theorem RSs.atV2 : ∀ {vs : List V} {ds : List Dt} {i : Nat} {v : V}, RSs cl S H vs ds → vs[i]? = some v → ∃ d, ds[i]? = some d ∧ RS cl S H v d
  | _, _, _, _, .nil, e => by simp at e
  | _, _, 0, _, .cons r _, e => by simp at e; subst e; exact ⟨_, rfl, r⟩
  | _, _, i + 1, d, .cons _ t, e => by
    obtain ⟨v, h1, h2⟩ := RSs.atV2 (i := i) (v := d) t (by simpa using e)
    exact ⟨v, by simpa using h1, h2⟩
theorem RSs.drop : ∀ (n : Nat) {vs : List V} {ds : List Dt}, RSs cl S H vs ds → RSs cl S H (vs.drop n) (ds.drop n)
  | 0, _, _, r => r
  | _ + 1, _, _, .nil => .nil
  | n + 1, _, _, .cons _ t => RSs.drop n t
theorem RSs.take : ∀ (n : Nat) {vs : List V} {ds : List Dt}, RSs cl S H vs ds → RSs cl S H (vs.take n) (ds.take n)
  | 0, _, _, _ => .nil
  | _ + 1, _, _, .nil => .nil
  | n + 1, _, _, .cons r t => .cons r (RSs.take n t)
theorem RSs.cut (r : RSs cl S H vs ds) (lo hi : Option Int) : ∃ es, RSs cl S H (cutV vs lo hi) es ∧ es.length ≤ ds.length := by
  refine ⟨_, RSs.take _ (RSs.drop _ r), ?_⟩
  rw [List.length_take, List.length_drop]
  omega
theorem RSs.rev : ∀ {vs : List V} {ds : List Dt}, RSs cl S H vs ds → RSs cl S H vs.reverse ds.reverse
  | _, _, .nil => .nil
  | _, _, .cons r t => by
    rw [List.reverse_cons, List.reverse_cons]
    exact RSs.app2 (RSs.rev t) (.cons r .nil)
theorem RSs.put : ∀ {vs : List V} {ds : List Dt} (j : Nat), RSs cl S H vs ds → RS cl S H v d → RSs cl S H (vs.set j v) (ds.set j d)
  | _, _, _, .nil, _ => .nil
  | _, _, 0, .cons _ t, r => .cons r t
  | _, _, j + 1, .cons r0 t, r => .cons r0 (RSs.put j t r)
theorem RS.lst_inv2 (r : RS cl S H v (.lst ds)) : ∃ a vs, v = .ref a ∧ S a ∧ H a = some (.lst vs) ∧ RSs cl S H vs ds := by
  cases r with
  | lst n e s => exact ⟨_, _, rfl, n, e, s⟩
theorem RS.tup_inv2 (r : RS cl S H v (.tup ds)) : ∃ a vs, v = .ref a ∧ S a ∧ H a = some (.tup vs) ∧ RSs cl S H vs ds := by
  cases r with
  | tup n e s => exact ⟨_, _, rfl, n, e, s⟩
theorem z_catSS {a b : Addr} (hd : Hd h c H) (x : Sx S h H) (r1 : RS cl S H (.ref a) (.lst ds)) (r2 : RS cl S H (.ref b) (.lst es)) (l : ds.length + es.length ≤ 1000000)
    (k : ∀ p H', Go h c H H' → Sx S h H' → H p = none → RS cl S H' (.ref p) (.lst (ds ++ es)) → Q (.ref p) H') : rCat (.ref a) (.ref b) H Q := by
  obtain ⟨_, xs, e, _, ha, s1⟩ := r1.lst_inv2
  cases e
  obtain ⟨_, ys, e, _, hb, s2⟩ := r2.lst_inv2
  cases e
  exact ⟨a, b, xs, ys, rfl, rfl, ha, hb, sz1000 (by rw [s1.len2, s2.len2]; exact l), fun p n => k p _ (Go.new hd n) (x.go hd (Go.new hd n)) n (.lst (x.nw p n) upd_same (RSs.go x (Go.new hd n) (s1.app2 s2)))⟩
theorem z_cutS {K : PySem.W.Frag} {a : Addr} {lo hi : Option Int} (hd : Hd h c H) (x : Sx S h H) (r : RS cl S H (.ref a) (.lst ds))
    (k : ∀ p H' es, Go h c H H' → Sx S h H' → H p = none → es.length ≤ ds.length → RS cl S H' (.ref p) (.lst es) → Q (.ref p) H') : rSlL K (.ref a) lo hi H Q := by
  obtain ⟨_, xs, e, _, ha, s⟩ := r.lst_inv2
  cases e
  obtain ⟨es, s2, le⟩ := s.cut lo hi
  exact ⟨a, xs, rfl, SqL.of ha, fun p n => k p _ es (Go.new hd n) (x.go hd (Go.new hd n)) n le (.lst (x.nw p n) upd_same (RSs.go x (Go.new hd n) s2))⟩
end
theorem eqv0 (gs : List G3) : PyData.eqv (.list (gs.map pd3)) (.list []) = decide (gs = []) := by
  cases gs with
  | nil => simp [PyData.eqv, PyData.eqvAll]
  | cons g gs => simp [PyData.eqv, PyData.eqvAll]
theorem shapedL (gs : List G3) : SeqAt.shaped (.list (gs.map pd3)) = true := by
  have h1 := pds_depth gs
  have h2 : PyData.depth (.list (gs.map pd3)) ≤ 64 := by
    simp only [PyData.depth]
    omega
  show (PyData.canLay0 (.list (gs.map pd3)) && decide (PyData.depth (.list (gs.map pd3)) ≤ 64)) = true
  rw [Bool.and_eq_true]
  exact ⟨by simp only [PyData.canLay0]; exact pds_lay gs, decide_eq_true h2⟩
theorem z_eqL0 {K : PySem.W.Frag} {cl : Nat → Addr} {h p q : Addr} {H : Hp} {vs : List V} {gs : List G3} {Q : VK} (e : H p = some (.lst vs)) (r : Rs cl h H vs (gs.map dG)) (e0 : H q = some (.lst [])) (k : Q (.bl (decide (gs = []))) H) : rEqD K (.ref p) (.ref q) H Q :=
  ⟨_, _, .lst (SqL.of e) (dpAll_G r), .lst (SqL.of e0) .nil, shapedL gs, by decide +kernel, by rw [eqv0]; exact k⟩
theorem z_neL0 {K : PySem.W.Frag} {cl : Nat → Addr} {h p q : Addr} {H : Hp} {vs : List V} {gs : List G3} {Q : VK} (e : H p = some (.lst vs)) (r : Rs cl h H vs (gs.map dG)) (e0 : H q = some (.lst [])) (k : Q (.bl (!decide (gs = []))) H) : rNeD K (.ref p) (.ref q) H Q :=
  ⟨_, _, .lst (SqL.of e) (dpAll_G r), .lst (SqL.of e0) .nil, shapedL gs, by decide +kernel, by rw [eqv0]; exact k⟩
/-- tuple(l) of a list of data -/
theorem z_tupS {K : PySem.W.Frag} {cl : Nat → Addr} {S : Addr → Prop} {h c a : Addr} {H : Hp} {ds : List Dt} {Q : VK} (hd : Hd h c H) (x : Sx S h H) (r : RS cl S H (.ref a) (.lst ds)) (k : ∀ q H', Go h c H H' → Sx S h H' → H q = none → RS cl S H' (.ref q) (.tup ds) → Q (.ref q) H') :
    ∃ p ys, [V.ref a] = [V.ref p] ∧ ((SqL K H p ys ∧ ∀ l, H l = none → Q (.ref l) (upd H l (.tup ys))) ∨ (SqT K H p ys ∧ Q (.ref p) H)) := by
  obtain ⟨_, xs, e, _, ha, s⟩ := r.lst_inv2
  cases e
  exact ⟨a, xs, rfl, .inl ⟨SqL.of ha, fun q n => k q _ (Go.new hd n) (x.go hd (Go.new hd n)) n (.tup (x.nw q n) upd_same (RSs.go x (Go.new hd n) s))⟩⟩
theorem sxH {h c : Addr} {H : Hp} (hd : Hd h c H) : Sx (fun a => a ≠ h) h H := ⟨fun _ n => n, fun _ n => hd.ne n⟩
theorem z_revL {K : PySem.W.Frag} {te : TE} {σ : L2.St} {H : Hp} {Q : VK} (k : te σ H fun x H1 => ∃ a xs, x = .ref a ∧ SqL K H1 a xs ∧ ∀ p, H1 p = none → Q (.ref p) (upd H1 p (.lst xs.reverse))) : tRevL K te σ H Q := k
theorem okG_isG4 {f : Int} {g : G3} (k : okG f g) : (dG g).isG4 f = true := by
  obtain ⟨k1, k2, k3, k4, k5, k6⟩ := k
  show ((Dt.int g.1).bet 0 (f - 1) && (Dt.int g.2.1).bet 0 (f - 1) && (Dt.int g.2.2).bet 1 10000000000000000000000000000000000000000) = true
  have e1 : (Dt.int g.1).bet 0 (f - 1) = true := by
    show (decide (0 ≤ g.1) && decide (g.1 ≤ f - 1)) = true
    rw [decide_eq_true k1, decide_eq_true (by omega)]
    rfl
  have e2 : (Dt.int g.2.1).bet 0 (f - 1) = true := by
    show (decide (0 ≤ g.2.1) && decide (g.2.1 ≤ f - 1)) = true
    rw [decide_eq_true k3, decide_eq_true (by omega)]
    rfl
  have e3 : (Dt.int g.2.2).bet 1 10000000000000000000000000000000000000000 = true := by
    show (decide (1 ≤ g.2.2) && decide (g.2.2 ≤ 10000000000000000000000000000000000000000)) = true
    rw [decide_eq_true k5, decide_eq_true (by omega)]
    rfl
  rw [e1, e2, e3]
  rfl
theorem kd_ne {K : PySem.W.Frag} {c e : Addr} (h1 : PySem.W.mroIn K c (.ref e) = some false) (h2 : PySem.W.mroIn K c (.ref c) = some true) : c ≠ e := fun z => by
  rw [← z, h2] at h1
  cases h1
end Zo

namespace Zo
open PySem L2 PySem.Spec PyProof.Rows
local macro_rules | `(tactic| walk_at "z1") => `(tactic| first
  | with_reducible refine z_seq ?_
  | with_reducible refine z_asgN ?_
  | with_reducible refine z_asg ?_
  | with_reducible refine z_gname ?_
  | (with_reducible refine z_var0 ?_; refine ⟨_, rfl, ?_⟩)
  | with_reducible refine z_c ?_
  | with_reducible refine z_op ?_
  | with_reducible refine z_un ?_
  | with_reducible refine z_I0 ?_
  | with_reducible refine z_eqI ?_
  | with_reducible refine z_neI ?_
  | with_reducible refine iteF ?_
  | with_reducible refine iteT ?_
  | with_reducible refine iteNT ?_
  | with_reducible refine iteNF ?_
  | with_reducible refine z_U ?_
  | with_reducible refine z_cons ?_
  | with_reducible refine z_nil ?_
  | with_reducible refine z_call ?_
  | with_reducible refine z_CB ?_
  | with_reducible refine z_bl ?_
  | with_reducible refine z_int ?_
  | with_reducible refine z_test ?_
  | with_reducible refine z_B ?_
  | with_reducible refine z_not ?_
  | with_reducible refine z_and ?_
  | with_reducible refine z_or ?_
  | with_reducible refine z_andV ?_
  | with_reducible refine z_orV ?_
  | with_reducible refine z_notV ?_
  | with_reducible refine z_chain ?_
  | with_reducible refine z_ifE ?_
  | with_reducible refine z_if ?_
  | with_reducible refine z_drop ?_
  | with_reducible refine z_ret ?_
  | with_reducible refine z_retN ?_
  | with_reducible refine z_next ?_
  | with_reducible refine z_brk ?_
  | with_reducible refine z_cont ?_
  | with_reducible refine z_sl ?_
  | with_reducible refine z_lc ?_
  | with_reducible refine z_iL ?_
  | with_reducible refine z_iT ?_
  | with_reducible refine z_par ?_
  | with_reducible refine z_two ?_
  | with_reducible refine z_gcons ?_
  | with_reducible refine z_gnil ?_
  | with_reducible refine z_make ?_
  | with_reducible refine z_makeS ?_
  | with_reducible refine z_mkX ?_
  | with_reducible refine z_bm ?_
  | with_reducible refine z_dget ?_
  | with_reducible refine z_iK ?_
  | with_reducible refine z_revL ?_
  | with_reducible refine z_dput ?_
  | with_reducible refine z_callS ?_
  | with_reducible refine z_xf ?_
  | with_reducible refine z_tupI ?_
  | with_reducible refine z_sf ?_
  | with_reducible refine z_fld ?_
  | with_reducible refine z_for ?_
  | with_reducible refine z_r1 ?_
  | with_reducible refine z_r2 ?_
  | with_reducible refine z_yes ?_
  | with_reducible refine z_gsub ?_
  | with_reducible refine z_noPart ?_
  | with_reducible refine z_part ?_
  | with_reducible refine z_lstI ?_)
local macro_rules | `(tactic| walk_at "zs") => `(tactic| repeat (walk_at "z1"))
def top (i : Nat) : Stmt := PySem.Challenge.pw_willinglift_k02_standings_judged.main.body.getD i (.Pass ⟨0, 0, 0, 0⟩)
abbrev s__law_hand : Stmt := (top 20)
abbrev s_BadStanding___init__ : Stmt := (inClass (top 8) 0)
abbrev s_is_integer : Stmt := (top 1)
abbrev s_is_between : Stmt := (top 3)
abbrev s_is_floor : Stmt := (top 16)
abbrev s_is_tuple_of : Stmt := (top 4)
abbrev s_is_from : Stmt := (top 2)
abbrev s_is_group : Stmt := (top 17)
abbrev s_is_bounded_groups : Stmt := (top 18)
abbrev s_Standing___init__ : Stmt := (inClass (top 15) 0)
abbrev s__law_told : Stmt := (top 33)
abbrev s_House___eq__ : Stmt := (inClass (top 14) 1)
abbrev s__law_is_int : Stmt := (top 28)
abbrev s__law_is_group : Stmt := (top 29)
abbrev s__law_are_groups : Stmt := (top 30)
abbrev s__law_right : Stmt := (top 34)
abbrev s__law_draw : Stmt := (top 21)
abbrev s__law_groups : Stmt := (top 23)
abbrev s__law_great : Stmt := (top 22)
abbrev s__law_great_groups : Stmt := (top 24)
abbrev s__law_world : Stmt := (top 25)
abbrev s_BadHouse___init__ : Stmt := (inClass (top 7) 0)
abbrev s_House___init__ : Stmt := (inClass (top 14) 0)
abbrev s_Standing___eq__ : Stmt := (inClass (top 15) 1)
abbrev s__law_some : Stmt := (top 26)
abbrev s__law_deep : Stmt := (top 27)
abbrev s__law_odd : Stmt := (top 31)
abbrev s__law_bent : Stmt := (top 32)
abbrev s_law : Stmt := (top 35)
structure Ad where
  c_LiftError : Addr
  c_BadHouse : Addr
  c_BadStanding : Addr
  c_House : Addr
  c_Standing : Addr
  a__law_hand : Addr
  d__law_hand : FuncData
  a_BadStanding___init__ : Addr
  d_BadStanding___init__ : FuncData
  a_is_integer : Addr
  d_is_integer : FuncData
  a_is_between : Addr
  d_is_between : FuncData
  a_is_floor : Addr
  d_is_floor : FuncData
  a_is_tuple_of : Addr
  d_is_tuple_of : FuncData
  a_is_from : Addr
  d_is_from : FuncData
  a_is_group : Addr
  d_is_group : FuncData
  a_is_bounded_groups : Addr
  d_is_bounded_groups : FuncData
  a_Standing___init__ : Addr
  d_Standing___init__ : FuncData
  a__law_told : Addr
  d__law_told : FuncData
  a_House___eq__ : Addr
  d_House___eq__ : FuncData
  a__law_is_int : Addr
  d__law_is_int : FuncData
  a__law_is_group : Addr
  d__law_is_group : FuncData
  a__law_are_groups : Addr
  d__law_are_groups : FuncData
  a__law_right : Addr
  d__law_right : FuncData
  a__law_draw : Addr
  d__law_draw : FuncData
  a__law_groups : Addr
  d__law_groups : FuncData
  a__law_great : Addr
  d__law_great : FuncData
  a__law_great_groups : Addr
  d__law_great_groups : FuncData
  a__law_world : Addr
  d__law_world : FuncData
  a_BadHouse___init__ : Addr
  d_BadHouse___init__ : FuncData
  a_House___init__ : Addr
  d_House___init__ : FuncData
  a_Standing___eq__ : Addr
  d_Standing___eq__ : FuncData
  a__law_some : Addr
  d__law_some : FuncData
  a__law_deep : Addr
  d__law_deep : FuncData
  a__law_odd : Addr
  d__law_odd : FuncData
  a__law_bent : Addr
  d__law_bent : FuncData
  a_law : Addr
  d_law : FuncData
def Ad.cl (A : Ad) : Nat → Addr
  | 0 => A.c_House
  | _ => A.c_Standing
structure Txt (K : PySem.W.Frag) (mg : Str → Option Value) (A : Ad) : Prop where
  g_LiftError : mg "LiftError" = some (.ref A.c_LiftError)
  g_BadHouse : mg "BadHouse" = some (.ref A.c_BadHouse)
  g_BadStanding : mg "BadStanding" = some (.ref A.c_BadStanding)
  g_House : mg "House" = some (.ref A.c_House)
  g_Standing : mg "Standing" = some (.ref A.c_Standing)
  F__law_hand : Fun K "_law_hand" "_law_hand" s__law_hand A.a__law_hand A.d__law_hand
  g__law_hand : mg "_law_hand" = some (.ref A.a__law_hand)
  b__law_hand : Binds K A.d__law_hand ["script"] []
  F_BadStanding___init__ : Fun K "__init__" "BadStanding.__init__" s_BadStanding___init__ A.a_BadStanding___init__ A.d_BadStanding___init__
  b_BadStanding___init__ : Binds K A.d_BadStanding___init__ ["self", "part"] []
  F_is_integer : Fun K "is_integer" "is_integer" s_is_integer A.a_is_integer A.d_is_integer
  g_is_integer : mg "is_integer" = some (.ref A.a_is_integer)
  b_is_integer : Binds K A.d_is_integer ["thing"] []
  F_is_between : Fun K "is_between" "is_between" s_is_between A.a_is_between A.d_is_between
  g_is_between : mg "is_between" = some (.ref A.a_is_between)
  b_is_between : Binds K A.d_is_between ["low", "high", "thing"] []
  F_is_floor : Fun K "is_floor" "is_floor" s_is_floor A.a_is_floor A.d_is_floor
  g_is_floor : mg "is_floor" = some (.ref A.a_is_floor)
  b_is_floor : Binds K A.d_is_floor ["house", "thing"] []
  F_is_tuple_of : Fun K "is_tuple_of" "is_tuple_of" s_is_tuple_of A.a_is_tuple_of A.d_is_tuple_of
  g_is_tuple_of : mg "is_tuple_of" = some (.ref A.a_is_tuple_of)
  b_is_tuple_of : Binds K A.d_is_tuple_of ["many", "thing"] []
  F_is_from : Fun K "is_from" "is_from" s_is_from A.a_is_from A.d_is_from
  g_is_from : mg "is_from" = some (.ref A.a_is_from)
  b_is_from : Binds K A.d_is_from ["low", "thing"] []
  F_is_group : Fun K "is_group" "is_group" s_is_group A.a_is_group A.d_is_group
  g_is_group : mg "is_group" = some (.ref A.a_is_group)
  b_is_group : Binds K A.d_is_group ["floors", "thing"] []
  F_is_bounded_groups : Fun K "is_bounded_groups" "is_bounded_groups" s_is_bounded_groups A.a_is_bounded_groups A.d_is_bounded_groups
  g_is_bounded_groups : mg "is_bounded_groups" = some (.ref A.a_is_bounded_groups)
  b_is_bounded_groups : Binds K A.d_is_bounded_groups ["floors", "thing"] []
  F_Standing___init__ : Fun K "__init__" "Standing.__init__" s_Standing___init__ A.a_Standing___init__ A.d_Standing___init__
  b_Standing___init__ : Binds K A.d_Standing___init__ ["self", "house", "lift", "groups"] []
  F__law_told : Fun K "_law_told" "_law_told" s__law_told A.a__law_told A.d__law_told
  g__law_told : mg "_law_told" = some (.ref A.a__law_told)
  b__law_told : Binds K A.d__law_told ["house", "lift", "groups"] []
  F_House___eq__ : Fun K "__eq__" "House.__eq__" s_House___eq__ A.a_House___eq__ A.d_House___eq__
  b_House___eq__ : Binds K A.d_House___eq__ ["self", "other"] []
  F_House___eq__i : PySem.W.isFn K (.ref A.a_House___eq__) = true
  F__law_is_int : Fun K "_law_is_int" "_law_is_int" s__law_is_int A.a__law_is_int A.d__law_is_int
  g__law_is_int : mg "_law_is_int" = some (.ref A.a__law_is_int)
  b__law_is_int : Binds K A.d__law_is_int ["thing", "least", "most"] []
  F__law_is_group : Fun K "_law_is_group" "_law_is_group" s__law_is_group A.a__law_is_group A.d__law_is_group
  g__law_is_group : mg "_law_is_group" = some (.ref A.a__law_is_group)
  b__law_is_group : Binds K A.d__law_is_group ["thing", "floors"] []
  F__law_are_groups : Fun K "_law_are_groups" "_law_are_groups" s__law_are_groups A.a__law_are_groups A.d__law_are_groups
  g__law_are_groups : mg "_law_are_groups" = some (.ref A.a__law_are_groups)
  b__law_are_groups : Binds K A.d__law_are_groups ["thing", "floors"] []
  F__law_right : Fun K "_law_right" "_law_right" s__law_right A.a__law_right A.d__law_right
  g__law_right : mg "_law_right" = some (.ref A.a__law_right)
  b__law_right : Binds K A.d__law_right ["house", "is_house", "lift", "groups", "floors"] []
  F__law_draw : Fun K "_law_draw" "_law_draw" s__law_draw A.a__law_draw A.d__law_draw
  g__law_draw : mg "_law_draw" = some (.ref A.a__law_draw)
  b__law_draw : Binds K A.d__law_draw ["hand", "many"] []
  F__law_groups : Fun K "_law_groups" "_law_groups" s__law_groups A.a__law_groups A.d__law_groups
  g__law_groups : mg "_law_groups" = some (.ref A.a__law_groups)
  b__law_groups : Binds K A.d__law_groups ["hand", "floors", "many", "most"] []
  F__law_great : Fun K "_law_great" "_law_great" s__law_great A.a__law_great A.d__law_great
  g__law_great : mg "_law_great" = some (.ref A.a__law_great)
  b__law_great : Binds K A.d__law_great ["hand", "most"] []
  F__law_great_groups : Fun K "_law_great_groups" "_law_great_groups" s__law_great_groups A.a__law_great_groups A.d__law_great_groups
  g__law_great_groups : mg "_law_great_groups" = some (.ref A.a__law_great_groups)
  b__law_great_groups : Binds K A.d__law_great_groups ["hand", "floors"] []
  F__law_world : Fun K "_law_world" "_law_world" s__law_world A.a__law_world A.d__law_world
  g__law_world : mg "_law_world" = some (.ref A.a__law_world)
  b__law_world : Binds K A.d__law_world ["hand"] []
  F_BadHouse___init__ : Fun K "__init__" "BadHouse.__init__" s_BadHouse___init__ A.a_BadHouse___init__ A.d_BadHouse___init__
  b_BadHouse___init__ : Binds K A.d_BadHouse___init__ ["self", "part"] []
  F_House___init__ : Fun K "__init__" "House.__init__" s_House___init__ A.a_House___init__ A.d_House___init__
  b_House___init__ : Binds K A.d_House___init__ ["self", "floors", "room"] []
  F_Standing___eq__ : Fun K "__eq__" "Standing.__eq__" s_Standing___eq__ A.a_Standing___eq__ A.d_Standing___eq__
  b_Standing___eq__ : Binds K A.d_Standing___eq__ ["self", "other"] []
  F_Standing___eq__i : PySem.W.isFn K (.ref A.a_Standing___eq__) = true
  F__law_some : Fun K "_law_some" "_law_some" s__law_some A.a__law_some A.d__law_some
  g__law_some : mg "_law_some" = some (.ref A.a__law_some)
  b__law_some : Binds K A.d__law_some ["hand", "things"] []
  F__law_deep : Fun K "_law_deep" "_law_deep" s__law_deep A.a__law_deep A.d__law_deep
  g__law_deep : mg "_law_deep" = some (.ref A.a__law_deep)
  b__law_deep : Binds K A.d__law_deep ["kind"] []
  F__law_odd : Fun K "_law_odd" "_law_odd" s__law_odd A.a__law_odd A.d__law_odd
  g__law_odd : mg "_law_odd" = some (.ref A.a__law_odd)
  b__law_odd : Binds K A.d__law_odd ["hand", "floors", "house"] []
  F__law_bent : Fun K "_law_bent" "_law_bent" s__law_bent A.a__law_bent A.d__law_bent
  g__law_bent : mg "_law_bent" = some (.ref A.a__law_bent)
  b__law_bent : Binds K A.d__law_bent ["hand", "groups", "floors", "house"] []
  F_law : Fun K "law" "law" s_law A.a_law A.d_law
  g_law : mg "law" = some (.ref A.a_law)
  b_law : Binds K A.d_law ["script"] []
  mk_House : Mk K A.c_House A.a_House___init__
  eq_House : PySem.W.findIn K (.ref A.c_House) "__eq__" = some (some (.ref A.a_House___eq__))
  ne_House : PySem.W.findIn K (.ref A.c_House) "__ne__" = some (some (.builtin "object.__ne__"))
  ob_House : PySem.W.mroIn K A.c_House (.type "object") = some true
  na_House_floors : NoAttr K A.c_House "floors"
  na_House_room : NoAttr K A.c_House "room"
  mk_Standing : Mk K A.c_Standing A.a_Standing___init__
  eq_Standing : PySem.W.findIn K (.ref A.c_Standing) "__eq__" = some (some (.ref A.a_Standing___eq__))
  ne_Standing : PySem.W.findIn K (.ref A.c_Standing) "__ne__" = some (some (.builtin "object.__ne__"))
  ob_Standing : PySem.W.mroIn K A.c_Standing (.type "object") = some true
  na_Standing_house : NoAttr K A.c_Standing "house"
  na_Standing_lift : NoAttr K A.c_Standing "lift"
  na_Standing_groups : NoAttr K A.c_Standing "groups"
  dn_House_Standing : A.c_House ≠ A.c_Standing
  kits : Kits K A.cl
  oe_BadHouse : OexC K A.c_BadHouse
  i_BadHouse : PySem.W.findIn K (.ref A.c_BadHouse) "__init__" = some (some (.ref A.a_BadHouse___init__))
  t_BadHouse : PySem.W.typeIn K (.ref A.a_BadHouse___init__) = some (.type "function")
  xf_BadHouse : XfC K A.c_BadHouse
  no_BadHouse : PySem.W.findIn K (.ref A.c_BadHouse) "part" = some none
  oe_BadStanding : OexC K A.c_BadStanding
  i_BadStanding : PySem.W.findIn K (.ref A.c_BadStanding) "__init__" = some (some (.ref A.a_BadStanding___init__))
  t_BadStanding : PySem.W.typeIn K (.ref A.a_BadStanding___init__) = some (.type "function")
  xf_BadStanding : XfC K A.c_BadStanding
  no_BadStanding : PySem.W.findIn K (.ref A.c_BadStanding) "part" = some none
  em_BadHouse_BadStanding : PySem.W.exmOne K (.ref A.c_BadHouse) (.ref A.c_BadStanding) = some false
  em_BadStanding_BadStanding : PySem.W.exmOne K (.ref A.c_BadStanding) (.ref A.c_BadStanding) = some true
  c_MOST_FLOORS : ∃ t, mg "MOST_FLOORS" = some (.int 40 t)
  c_MOST_GROUPS : ∃ t, mg "MOST_GROUPS" = some (.int 400 t)
  c_MOST_PEOPLE : ∃ t, mg "MOST_PEOPLE" = some (.int 1000000000000000000000000000000 t)
  c_MOST_ROOM : ∃ t, mg "MOST_ROOM" = some (.int 1000000000000 t)
  n_abs : mg "abs" = none
  n_bool : mg "bool" = none
  n_int : mg "int" = none
  n_isinstance : mg "isinstance" = none
  n_len : mg "len" = none
  n_list : mg "list" = none
  n_range : mg "range" = none
  n_sorted : mg "sorted" = none
  n_tuple : mg "tuple" = none
section
variable {P : Program} {w : World} {K : PySem.W.Frag} {mg : Str → Option Value} {base : Heap} {A : Ad}
theorem sc__law_hand : FnScope ["script", "cells", "cell"] ["script"] (defScope s__law_hand) := ⟨rfl, rfl, rfl, by decide +kernel, rfl, by decide +kernel, by decide +kernel⟩
def sp__law_hand (K : PySem.W.Frag) (A : Ad) : Sp := fun vs H Q E =>
  ∃ (a : Addr) (ns : List Int), vs = [.ref a] ∧ SqL K H a (ns.map V.int) ∧ ns.length ≤ 63 ∧ ∀ (h c : Addr) (H' : Hp), Same H H' → Hd h c H' → H h = none → H c = none → Q (.ref h) H'
theorem G__law_hand (T : Txt K mg A) : FnOk P w K mg base CX0 1 A.a__law_hand A.d__law_hand ["script"] (sp__law_hand K A) := by
  refine T.F__law_hand.ok sc__law_hand (fun vs H Q E h => ?_) (fun cdv A' outer s H vs Q E hr h => ?_)
  · obtain ⟨_, _, rfl, _⟩ := h; rfl
  · obtain ⟨a, ns, rfl, hS, hl, k⟩ := h
    refine ⟨_, ((pss_cons (ps_setLc (i := 1) (own := [("cell", 2)]) (g := gName 2) rfl sc__law_hand.nd rfl rfl (sw_true rfl rfl rfl (by decide +kernel)) (pi_list (pe_slice sl_list (pv 0) po_none (po_some pe_int))) (blkOk_by (own := [("cell", 2)]) (N := ["script", "cells", "cell"]) (sc := defScope s__law_hand) (by decide +kernel)) (fun _ _ _ _ _ => (pg_name (i := 2) sc__law_hand.nd rfl (Or.inl rfl))) (fun _ _ _ _ _ => pts_nil) (fun _ _ _ _ _ => (pe_callB call_abs (by rfl) T.n_abs (by decide +kernel) (pa_cons (pe_callTy call_int1 (by rfl) T.n_int (by decide +kernel) (pa_cons (pv 2) pa_nil)) pa_nil))))
          (pss_one (ps_ret (pe_lst (pa_cons (pv 1) (pa_cons pe_int (pa_cons pe_int (pa_cons (pe_op op_add pe_int (pe_callB call_len_seq (by rfl) T.n_len (by decide +kernel) (pa_cons (pv 1) pa_nil))) (pa_cons pe_int pa_nil)))))))))), ?_⟩
    try dsimp only [cxOf, Cx.nox]
    (walk_at "zs")
    refine z_slL hS fun b hb => ?_
    rw [cutV_all (by rw [List.length_map]; omega)]
    (walk_at "zs")
    refine ⟨b, rfl, ⟨_, .inl (.inl upd_same)⟩, fun D hD => lc_list (xs := ns.map V.int) (fun i H2 => H2 b = some (.lst (ns.map V.int)) ∧ H2 D = some (.lst ((ns.take i).map fun n => V.int (if n < 0 then -n else n))) ∧ Same H H2) ?_ (fun i H2 _ p => .inl (.inl p.1)) ?_ ?_⟩
    · have nbD : b ≠ D := fun q => by
        rw [← q, upd_same] at hD
        cases hD
      have hDn : H D = none := by
        rw [upd_ne nbD.symm] at hD
        exact hD
      refine ⟨by rw [upd_ne nbD, upd_same], by rw [upd_same]; rfl, fun q o e => ?_⟩
      rw [upd_ne (ne_of_none e hDn), upd_ne (ne_of_none e hb)]
      exact e
    · intro i x H2 hx p
      obtain ⟨n, hn, rfl⟩ : ∃ n, ns[i]? = some n ∧ x = V.int n := by
        rw [List.getElem?_map] at hx
        cases e : ns[i]? with
        | none => rw [e] at hx; cases hx
        | some n => rw [e] at hx; exact ⟨n, rfl, (Option.some.inj hx).symm⟩
      refine z_gname ⟨rfl, ?_⟩
      (walk_at "zs")
      refine .inl ⟨_, rfl, ?_⟩
      (walk_at "zs")
      refine ⟨_, rfl, _, p.2.1, ?_, ?_⟩
      · rw [List.length_map, List.length_take]
        exact Nat.lt_of_le_of_lt (Nat.le_trans (Nat.min_le_right _ _) hl) (by decide)
      · have nbD : b ≠ D := fun q => by
          rw [← q, upd_same] at hD
          cases hD
        have hDn : H D = none := by
          rw [upd_ne nbD.symm] at hD
          exact hD
        refine ⟨by rw [upd_ne nbD]; exact p.1, ?_, fun q o e => ?_⟩
        · rw [upd_same, take_one hn, List.map_append]
          rfl
        · rw [upd_ne (ne_of_none e hDn)]
          exact p.2.2 q o e
    · intro H2 p
      rw [List.length_map, List.take_length] at p
      have nbD : b ≠ D := fun q => by
        rw [← q, upd_same] at hD
        cases hD
      have hDn : H D = none := by
        rw [upd_ne nbD.symm] at hD
        exact hD
      (walk_at "zs")
      refine ⟨_, _, rfl, .inl (.inl (.inl p.2.1)), ?_⟩
      (walk_at "zs")
      refine ⟨by show 5 ≤ sizeLine; decide, fun q hq => k q D _ ?_ ?_ (p.2.2.free hq) hDn⟩
      · intro a' o e
        rw [upd_ne (ne_of_none (p.2.2 _ _ e) hq)]
        exact p.2.2 _ _ e
      · have nDq : D ≠ q := fun z => by
          rw [← z, p.2.1] at hq
          cases hq
        refine ⟨nDq, ns.map fun n => if n < 0 then -n else n, 0, 0, _, 0, upd_same, ?_, by rw [List.length_map]; exact hl, fun n hn => ?_, Int.le_refl _, ?_, ?_, Int.le_refl _⟩
        · rw [upd_ne nDq, p.2.1, List.map_map]
          rfl
        · obtain ⟨m, _, rfl⟩ := List.mem_map.mp hn
          split <;> omega
        · rw [List.length_map]
          omega
        · rw [List.length_map]
          omega
theorem sc_BadStanding___init__ : FnScope ["self", "part"] ["self", "part"] (defScope s_BadStanding___init__) := ⟨rfl, rfl, rfl, by decide +kernel, rfl, by decide +kernel, by decide +kernel⟩
theorem G_BadStanding___init__ (T : Txt K mg A) : FnOk P w K mg base CX0 1 A.a_BadStanding___init__ A.d_BadStanding___init__ ["self", "part"] (spX1 K A.c_BadStanding "part") := by
  refine T.F_BadStanding___init__.ok sc_BadStanding___init__ (fun vs H Q E h => ?_) (fun cdv A' outer s H vs Q E hr h => ?_)
  · obtain ⟨_, _, rfl, _⟩ := h
    rfl
  · obtain ⟨a, v, rfl, T1, no, ha, k⟩ := h
    refine ⟨_, ((pss_one (ps_ost (pv 0) (pv 1)))), z_ost rfl rfl T1 no ha k⟩
theorem sc_is_integer : FnScope ["thing"] ["thing"] (defScope s_is_integer) := ⟨rfl, rfl, rfl, by decide +kernel, rfl, by decide +kernel, by decide +kernel⟩
def sp_is_integer (K : PySem.W.Frag) (A : Ad) : Sp := fun vs H Q E =>
  ∃ (h : Addr) (v : V) (d : Dt), vs = [v] ∧ R A.cl h H v d ∧ Q (.bl d.isN) H
theorem G_is_integer (T : Txt K mg A) : FnOk P w K mg base CX0 1 A.a_is_integer A.d_is_integer ["thing"] (sp_is_integer K A) := by
  refine T.F_is_integer.ok sc_is_integer (fun vs H Q E h => ?_) (fun cdv A' outer s H vs Q E hr h => ?_)
  · obtain ⟨_, _, _, rfl, _⟩ := h; rfl
  · obtain ⟨h, v, d, rfl, r, k⟩ := h
    refine ⟨_, ((pss_one (ps_ret (pe_and (pe_callB call_isi (by rfl) T.n_isinstance (by decide +kernel) (pa_cons (pv 0) (pa_cons (pe_bltn (v := .ty "int") (by rfl) T.n_int (by decide +kernel) rfl) pa_nil))) (pe_one (pe_not (pe_callB call_isi (by rfl) T.n_isinstance (by decide +kernel) (pa_cons (pv 0) (pa_cons (pe_bltn (v := .ty "bool") (by rfl) T.n_bool (by decide +kernel) rfl) pa_nil))))))))), ?_⟩
    try dsimp only [cxOf, Cx.nox]
    rw [d.isN_eq] at k
    (walk_at "zs")
    refine isi_int T.kits r ?_
    (walk_at "zs")
    refine z_iteB (fun e => ?_) (fun e => ?_)
    · (walk_at "zs")
      refine isi_bool T.kits r ?_
      (walk_at "zs")
      rw [e] at k
      exact k
    · rw [e] at k
      exact k
theorem sc_is_between : FnScope ["low", "high", "thing"] ["low", "high", "thing"] (defScope s_is_between) := ⟨rfl, rfl, rfl, by decide +kernel, rfl, by decide +kernel, by decide +kernel⟩
def sp_is_between (K : PySem.W.Frag) (A : Ad) : Sp := fun vs H Q E =>
  ∃ (h : Addr) (v : V) (d : Dt) (a b : Int), vs = [.int a, .int b, v] ∧ R A.cl h H v d ∧ Q (.bl (d.bet a b)) H
theorem G_is_between (T : Txt K mg A) : FnOk P w K mg base CX0 2 A.a_is_between A.d_is_between ["low", "high", "thing"] (sp_is_between K A) := by
  refine T.F_is_between.ok sc_is_between (fun vs H Q E h => ?_) (fun cdv A' outer s H vs Q E hr h => ?_)
  · obtain ⟨_, _, _, _, _, rfl, _⟩ := h; rfl
  · obtain ⟨h, v, d, a, b, rfl, r, k⟩ := h
    refine ⟨_, ((pss_one (ps_ret (pe_and (pe_call (G_is_integer T) (hr.mono (by decide)) rfl T.g_is_integer T.F_is_integer.kp T.b_is_integer .nil pass0 (pa_cons (pv 2) pa_nil)) (pe_one (pe_chain op_le op_le (pv 0) (pv 2) (pv 1))))))), ?_⟩
    try dsimp only [cxOf, Cx.nox]
    (walk_at "zs")
    refine ⟨h, v, d, rfl, r, ?_⟩
    (walk_at "zs")
    refine z_iteB (fun e => ?_) (fun e => ?_)
    · obtain ⟨i, rfl⟩ := Dt.of_isN e
      cases r
      (walk_at "zs")
      refine z_ite (fun e1 => ?_) (fun e1 => ?_)
      · (walk_at "zs")
        have q : (Dt.int i).bet a b = decide (i ≤ b) := by show (decide (a ≤ i) && decide (i ≤ b)) = _; rw [decide_eq_true e1]; rfl
        rw [q] at k
        exact k
      · have q : (Dt.int i).bet a b = false := by show (decide (a ≤ i) && decide (i ≤ b)) = _; rw [decide_eq_false e1]; rfl
        rw [q] at k
        exact k
    · have q : d.bet a b = false := by cases d <;> first | rfl | (exact Bool.noConfusion e)
      rw [q] at k
      exact k
theorem sc_is_floor : FnScope ["house", "thing"] ["house", "thing"] (defScope s_is_floor) := ⟨rfl, rfl, rfl, by decide +kernel, rfl, by decide +kernel, by decide +kernel⟩
def sp_is_floor (K : PySem.W.Frag) (A : Ad) : Sp := fun vs H Q E =>
  ∃ (h : Addr) (hv v : V) (d : Dt) (f r : Int), vs = [hv, v] ∧ R A.cl h H hv (.hou f r) ∧ R A.cl h H v d ∧ Q (.bl (d.bet 0 (f - 1))) H
theorem G_is_floor (T : Txt K mg A) : FnOk P w K mg base CX0 3 A.a_is_floor A.d_is_floor ["house", "thing"] (sp_is_floor K A) := by
  refine T.F_is_floor.ok sc_is_floor (fun vs H Q E h => ?_) (fun cdv A' outer s H vs Q E hr h => ?_)
  · obtain ⟨_, _, _, _, _, _, rfl, _⟩ := h; rfl
  · obtain ⟨h, hv, v, d, f, r, rfl, rh, rv, k⟩ := h
    refine ⟨_, ((pss_one (ps_ret (pe_call (G_is_between T) (hr.mono (by decide)) rfl T.g_is_between T.F_is_between.kp T.b_is_between .nil pass0 (pa_cons pe_int (pa_cons (pe_op op_sub (pe_fld (pv 0) rfl) pe_int) (pa_cons (pv 1) pa_nil))))))), ?_⟩
    try dsimp only [cxOf, Cx.nox]
    obtain ⟨xa, xd, xvs, rfl, _, hxa, sx, _⟩ := rh.ins_inv
    obtain ⟨_, _, rfl, q1, q2⟩ := sx.two
    cases q1
    cases q2
    (walk_at "zs")
    refine ⟨xa, _, xd, _, _, rfl, hxa, (T.kits.kit 0).cl, T.na_House_floors, lk_fst, ?_⟩
    (walk_at "zs")
    exact ⟨h, v, d, _, _, rfl, rv, k⟩
theorem sc_is_tuple_of : FnScope ["many", "thing"] ["many", "thing"] (defScope s_is_tuple_of) := ⟨rfl, rfl, rfl, by decide +kernel, rfl, by decide +kernel, by decide +kernel⟩
def sp_is_tuple_of (K : PySem.W.Frag) (A : Ad) : Sp := fun vs H Q E =>
  ∃ (h : Addr) (v : V) (d : Dt) (n : Nat), vs = [.int (n : Nat), v] ∧ R A.cl h H v d ∧ Q (.bl (d.tupn n)) H
theorem G_is_tuple_of (T : Txt K mg A) : FnOk P w K mg base CX0 1 A.a_is_tuple_of A.d_is_tuple_of ["many", "thing"] (sp_is_tuple_of K A) := by
  refine T.F_is_tuple_of.ok sc_is_tuple_of (fun vs H Q E h => ?_) (fun cdv A' outer s H vs Q E hr h => ?_)
  · obtain ⟨_, _, _, _, rfl, _⟩ := h; rfl
  · obtain ⟨h, v, d, n, rfl, r, k⟩ := h
    refine ⟨_, ((pss_one (ps_ret (pe_and (pe_callB call_isi (by rfl) T.n_isinstance (by decide +kernel) (pa_cons (pv 1) (pa_cons (pe_bltn (v := .ty "tuple") (by rfl) T.n_tuple (by decide +kernel) rfl) pa_nil))) (pe_one (pe_cmpR op_eq (pe_callB call_len_seq (by rfl) T.n_len (by decide +kernel) (pa_cons (pv 1) pa_nil)) (pv 0) (nomark _))))))), ?_⟩
    try dsimp only [cxOf, Cx.nox]
    (walk_at "zs")
    refine isi_tup T.kits r ?_
    (walk_at "zs")
    refine z_iteB (fun e => ?_) (fun e => ?_)
    · obtain ⟨l, rfl⟩ : ∃ l, d = .tup l := by cases d <;> first | exact ⟨_, rfl⟩ | exact Bool.noConfusion e
      obtain ⟨a, vs, rfl, _, ha, s⟩ := r.tup_inv
      (walk_at "zs")
      refine ⟨_, _, rfl, .inr (.inl (.inl ha)), ?_⟩
      (walk_at "zs")
      rw [s.len]
      have q : decide (((l.length : Nat) : Int) = ((n : Nat) : Int)) = (Dt.tup l).tupn n := by
        show _ = decide (l.length = n)
        rw [Bool.eq_iff_iff, decide_eq_true_iff, decide_eq_true_iff]
        omega
      rw [q]
      exact k
    · have q : d.tupn n = false := by cases d <;> first | rfl | (exact Bool.noConfusion e)
      rw [q] at k
      exact k
theorem sc_is_from : FnScope ["low", "thing"] ["low", "thing"] (defScope s_is_from) := ⟨rfl, rfl, rfl, by decide +kernel, rfl, by decide +kernel, by decide +kernel⟩
def sp_is_from (K : PySem.W.Frag) (A : Ad) : Sp := fun vs H Q E =>
  ∃ (h : Addr) (v : V) (d : Dt) (a : Int), vs = [.int a, v] ∧ R A.cl h H v d ∧ Q (.bl (d.frm a)) H
theorem G_is_from (T : Txt K mg A) : FnOk P w K mg base CX0 2 A.a_is_from A.d_is_from ["low", "thing"] (sp_is_from K A) := by
  refine T.F_is_from.ok sc_is_from (fun vs H Q E h => ?_) (fun cdv A' outer s H vs Q E hr h => ?_)
  · obtain ⟨_, _, _, _, rfl, _⟩ := h; rfl
  · obtain ⟨h, v, d, a, rfl, r, k⟩ := h
    refine ⟨_, ((pss_one (ps_ret (pe_and (pe_call (G_is_integer T) (hr.mono (by decide)) rfl T.g_is_integer T.F_is_integer.kp T.b_is_integer .nil pass0 (pa_cons (pv 1) pa_nil)) (pe_one (pe_cmpR op_ge (pv 1) (pv 0) (nomark _))))))), ?_⟩
    try dsimp only [cxOf, Cx.nox]
    (walk_at "zs")
    refine ⟨h, v, d, rfl, r, ?_⟩
    (walk_at "zs")
    refine z_iteB (fun e => ?_) (fun e => ?_)
    · obtain ⟨i, rfl⟩ := Dt.of_isN e
      cases r
      (walk_at "zs")
      exact k
    · have q : d.frm a = false := by cases d <;> first | rfl | (exact Bool.noConfusion e)
      rw [q] at k
      exact k
theorem sc_is_group : FnScope ["floors", "thing"] ["floors", "thing"] (defScope s_is_group) := ⟨rfl, rfl, rfl, by decide +kernel, rfl, by decide +kernel, by decide +kernel⟩
def sp_is_group (K : PySem.W.Frag) (A : Ad) : Sp := fun vs H Q E =>
  ∃ (h : Addr) (v : V) (d : Dt) (f : Int), vs = [.int f, v] ∧ R A.cl h H v d ∧ Q (.bl (d.isG f)) H
theorem G_is_group (T : Txt K mg A) : FnOk P w K mg base CX0 3 A.a_is_group A.d_is_group ["floors", "thing"] (sp_is_group K A) := by
  refine T.F_is_group.ok sc_is_group (fun vs H Q E h => ?_) (fun cdv A' outer s H vs Q E hr h => ?_)
  · obtain ⟨_, _, _, _, rfl, _⟩ := h; rfl
  · obtain ⟨h, v, d, f, rfl, r, k⟩ := h
    refine ⟨_, ((pss_one (ps_ret (pe_and (pe_call (G_is_tuple_of T) (hr.mono (by decide)) rfl T.g_is_tuple_of T.F_is_tuple_of.kp T.b_is_tuple_of .nil pass0 (pa_cons pe_int (pa_cons (pv 1) pa_nil))) (pe_and (pe_call (G_is_between T) (hr.mono (by decide)) rfl T.g_is_between T.F_is_between.kp T.b_is_between .nil pass0 (pa_cons pe_int (pa_cons (pe_op op_sub (pv 0) pe_int) (pa_cons (pe_ix (show IxR _ (rIxT K) from ix_tup) (pv 1) pe_int (fun _ _ => rfl)) pa_nil)))) (pe_and (pe_call (G_is_between T) (hr.mono (by decide)) rfl T.g_is_between T.F_is_between.kp T.b_is_between .nil pass0 (pa_cons pe_int (pa_cons (pe_op op_sub (pv 0) pe_int) (pa_cons (pe_ix (show IxR _ (rIxT K) from ix_tup) (pv 1) pe_int (fun _ _ => rfl)) pa_nil)))) (pe_one (pe_call (G_is_from T) (hr.mono (by decide)) rfl T.g_is_from T.F_is_from.kp T.b_is_from .nil pass0 (pa_cons pe_int (pa_cons (pe_ix (show IxR _ (rIxT K) from ix_tup) (pv 1) pe_int (fun _ _ => rfl)) pa_nil)))))))))), ?_⟩
    try dsimp only [cxOf, Cx.nox]
    (walk_at "zs")
    refine ⟨h, v, d, 3, rfl, r, ?_⟩
    (walk_at "zs")
    refine z_iteB (fun e => ?_) (fun e => ?_)
    · obtain ⟨l, rfl, l3⟩ := Dt.of_tupn e
      obtain ⟨da, db, dc, rfl⟩ := len3 l3
      obtain ⟨a, vs, rfl, _, ha, s⟩ := r.tup_inv
      obtain ⟨va, vb, vc, rfl, ra, rb, rc⟩ := s.three
      have k' : Q (.bl ((da.bet 0 (f - 1) && db.bet 0 (f - 1)) && dc.frm 1)) H := k
      (walk_at "zs")
      refine z_ixT (SqT.of ha) rfl ?_
      refine ⟨h, va, da, _, _, rfl, ra, ?_⟩
      (walk_at "zs")
      refine z_iteB (fun e1 => ?_) (fun e1 => ?_)
      · rw [e1] at k'
        (walk_at "zs")
        refine z_ixT (SqT.of ha) rfl ?_
        refine ⟨h, vb, db, _, _, rfl, rb, ?_⟩
        (walk_at "zs")
        refine z_iteB (fun e2 => ?_) (fun e2 => ?_)
        · rw [e2] at k'
          (walk_at "zs")
          refine z_ixT (SqT.of ha) rfl ?_
          exact ⟨h, vc, dc, _, rfl, rc, k'⟩
        · rw [e2] at k'
          exact k'
      · rw [e1] at k'
        exact k'
    · rw [Dt.isG_tupn e] at k
      exact k
theorem sc_is_bounded_groups : FnScope ["floors", "thing", "ahead", "group"] ["floors", "thing"] (defScope s_is_bounded_groups) := ⟨rfl, rfl, rfl, by decide +kernel, rfl, by decide +kernel, by decide +kernel⟩
def sp_is_bounded_groups (K : PySem.W.Frag) (A : Ad) : Sp := fun vs H Q E =>
  ∃ (h c : Addr) (v : V) (d : Dt) (f : Int), vs = [.int f, v] ∧ Hd h c H ∧ R A.cl h H v d ∧ ∀ H', Go h c H H' → Q (.bl (d.isGs f)) H'
theorem G_is_bounded_groups (T : Txt K mg A) : FnOk P w K mg base CX0 4 A.a_is_bounded_groups A.d_is_bounded_groups ["floors", "thing"] (sp_is_bounded_groups K A) := by
  refine T.F_is_bounded_groups.ok sc_is_bounded_groups (fun vs H Q E h => ?_) (fun cdv A' outer s H vs Q E hr h => ?_)
  · obtain ⟨_, _, _, _, _, rfl, _⟩ := h; rfl
  · obtain ⟨h, c, v, d, f, rfl, hd, r, k⟩ := h
    refine ⟨_, ((pss_cons (ps_if (PW.pt (pw_or (pt_not (pt_val (pe_callB call_isi (by rfl) T.n_isinstance (by decide +kernel) (pa_cons (pv 1) (pa_cons (pe_bltn (v := .ty "tuple") (by rfl) T.n_tuple (by decide +kernel) rfl) pa_nil))))) (pw_or1 (pt_cmpR op_gt (pe_callB call_len_seq (by rfl) T.n_len (by decide +kernel) (pa_cons (pv 1) pa_nil)) (pe_gi rfl T.c_MOST_GROUPS) (nomark _))))) (pss_one (ps_ret pe_bl)) pss_nil)
          (pss_cons (ps_set (i := 2) sc_is_bounded_groups.nd rfl (Or.inl rfl) (pe_tup (pa_cons (pe_un un_neg pe_int) (pa_cons (pe_un un_neg pe_int) pa_nil))))
          (pss_cons (ps_for PassesOwn.never rfl (pi_tup (pv 1)) (pg_name (i := 3) sc_is_bounded_groups.nd rfl (Or.inl rfl))
          (pss_cons (ps_if (PW.pt (pw_or (pt_not (pt_val (pe_call (G_is_group T) (hr.mono (by decide)) rfl T.g_is_group T.F_is_group.kp T.b_is_group .nil pass0 (pa_cons (pv 0) (pa_cons (pv 3) pa_nil))))) (pw_or (pt_cmpR op_gt (pe_ix (show IxR _ (rIxT K) from ix_tup) (pv 3) pe_int (fun _ _ => rfl)) (pe_gi rfl T.c_MOST_PEOPLE) (nomark _)) (pw_or1 (pt_cmpR (show OpR _ _ (rLeT K) from op_leT hr.units0) (pe_slice sl_tup (pv 3) po_none (po_some pe_int)) (pv 2) (nomark _)))))) (pss_one (ps_ret pe_bl)) pss_nil)
          (pss_one (ps_set (i := 2) sc_is_bounded_groups.nd rfl (Or.inl rfl) (pe_slice sl_tup (pv 3) po_none (po_some pe_int))))))
          (pss_one (ps_ret pe_bl)))))), ?_⟩
    try dsimp only [cxOf, Cx.nox]
    (walk_at "zs")
    refine isi_tup T.kits r ?_
    (walk_at "zs")
    refine z_iteN (fun e => ?_) (fun e => ?_)
    · (walk_at "zs")
      have q : d.isGs f = false := by cases d <;> first | rfl | (exact Bool.noConfusion e)
      rw [q] at k
      exact k _ (Go.refl H)
    · obtain ⟨l, rfl⟩ : ∃ l, d = .tup l := by cases d <;> first | exact ⟨_, rfl⟩ | exact Bool.noConfusion e
      obtain ⟨a, vs, rfl, na, ha, s⟩ := r.tup_inv
      have k' : ∀ H', Go h c H H' → Q (.bl (decide (l.length ≤ 400) && scan f (-1) (-1) l)) H' := k
      (walk_at "zs")
      refine ⟨_, _, rfl, .inr (.inl (.inl ha)), ?_⟩
      (walk_at "zs")
      rw [s.len]
      refine z_ite (fun e1 => ?_) (fun e1 => ?_)
      · (walk_at "zs")
        rw [decide_eq_false (by omega)] at k'
        exact k' _ (Go.refl H)
      · rw [decide_eq_true (by omega)] at k'
        have k2 : ∀ H', Go h c H H' → Q (.bl (scan f (-1) (-1) l)) H' := k'
        (walk_at "zs")
        refine z_newT (cl := A.cl) hd (.cons (.int _) (.cons (.int _) .nil)) fun p1 H1 g1 _ r1 => ?_
        have hd1 := g1.2 hd
        obtain ⟨_, _, ep, np1, e1', s1⟩ := r1.tup_inv
        cases ep
        obtain ⟨_, _, rfl, q1, q2⟩ := s1.two
        cases q1
        cases q2
        (walk_at "zs")
        refine ⟨a, rfl, ⟨_, SqT.of (g1.1 _ _ na ha)⟩, for_tup (xs := vs) (fun i σ HH => ∃ x y p u, σ = [some (.int f), some (.ref a), some (.ref p), u] ∧ Go h c H1 HH ∧ p ≠ h ∧ HH p = some (.tup [.int x, .int y]) ∧ scan f (-1) (-1) l = scan f x y (l.drop i)) ⟨-1, -1, p1, _, rfl, Go.refl H1, np1, e1', rfl⟩
          (fun i σ HH _ p => by obtain ⟨x, y, p, u, _, g, _⟩ := p; exact SqT.of (g.1 _ _ na (g1.1 _ _ na ha))) ?_ ?_⟩
        · rintro i x σ H2 hx ⟨px, py, p, u, rfl, g2, np, ep, es⟩
          have hd2 := g2.2 hd1
          obtain ⟨dx, hdx, rx0⟩ := s.atV hx
          have rx := (g1.trans g2).r rx0
          have il := (List.getElem?_eq_some_iff.mp hdx).1
          have ed : l.drop i = dx :: l.drop (i + 1) := by
            rw [List.drop_eq_getElem_cons il, (List.getElem?_eq_some_iff.mp hdx).2]
          rw [ed] at es
          (walk_at "zs")
          refine ⟨h, x, dx, f, rfl, rx, ?_⟩
          (walk_at "zs")
          refine z_iteN (fun e2 => ?_) (fun e2 => ?_)
          · (walk_at "zs")
            rw [es, scan_no e2] at k2
            exact k2 _ (g1.trans g2)
          · obtain ⟨g, rfl, _⟩ := Dt.isG_int e2
            rw [scan_cons e2] at es
            obtain ⟨ga, gvs, rfl, nga, hga, sg⟩ := rx.tup_inv
            obtain ⟨_, _, _, rfl, q1, q2, q3⟩ := sg.three
            cases q1
            cases q2
            cases q3
            (walk_at "zs")
            refine z_ixT (SqT.of hga) rfl ?_
            (walk_at "zs")
            refine z_ite (fun e3 => ?_) (fun e3 => ?_)
            · (walk_at "zs")
              rw [es, decide_eq_false (by omega)] at k2
              exact k2 _ (g1.trans g2)
            · rw [decide_eq_true (show g.2.2 ≤ 1000000000000000000000000000000 by omega)] at es
              have es' : scan f (-1) (-1) l = (gtP g.1 g.2.1 px py && scan f g.1 g.2.1 (l.drop (i + 1))) := by rw [es]; simp
              (walk_at "zs")
              refine z_slT2 hga fun p3 np3 => ?_
              have g3 := Go.new (o := .tup [.int g.1, .int g.2.1]) hd2 np3
              have hd3 := g3.2 hd2
              (walk_at "zs")
              refine z_leT2 upd_same (g3.1 _ _ np ep) ?_
              (walk_at "zs")
              refine z_iteN (fun e4 => ?_) (fun e4 => ?_)
              · (walk_at "zs")
                rw [es', e4] at k2
                exact k2 _ ((g1.trans g2).trans g3)
              · (walk_at "zs")
                refine z_slT2 (g3.1 _ _ nga hga) fun p4 np4 => ?_
                (walk_at "zs")
                refine ⟨g.1, g.2.1, p4, _, rfl, (g2.trans g3).trans (Go.new hd3 np4), hd3.ne np4, upd_same, ?_⟩
                rw [es', e4]
                simp
        · rintro σ H2 ⟨px, py, p, u, rfl, g2, np, ep, es⟩
          (walk_at "zs")
          rw [s.len, List.drop_length] at es
          have z : scan f px py [] = true := rfl
          rw [es, z] at k2
          exact k2 _ (g1.trans g2)
theorem sc_Standing___init__ : FnScope ["self", "house", "lift", "groups"] ["self", "house", "lift", "groups"] (defScope s_Standing___init__) := ⟨rfl, rfl, rfl, by decide +kernel, rfl, by decide +kernel, by decide +kernel⟩
def sp_Standing___init__ (K : PySem.W.Frag) (A : Ad) : Sp := fun vs H Q E =>
  ∃ (h c : Addr) (x dx : Addr) (hv lv gv : V) (f r : Int) (hD ld gd : Dt), vs = [.ref x, hv, lv, gv] ∧ Hd h c H ∧ x ≠ h ∧ x ≠ c ∧ H x = some (.ins A.c_Standing dx []) ∧ R A.cl h H hv hD ∧ (hD.isO A.cl A.c_House = true → hD = .hou f r) ∧ R A.cl h H lv ld ∧ R A.cl h H gv gd ∧
  (hD.isO A.cl A.c_House = false → ∀ d, H d = none → E (.ref A.c_BadStanding) (some d) (upd H d (.xd [("part", .str "house")]))) ∧
  (hD.isO A.cl A.c_House = true → ld.bet 0 (f - 1) = false → ∀ d, H d = none → E (.ref A.c_BadStanding) (some d) (upd H d (.xd [("part", .str "lift")]))) ∧
  (hD.isO A.cl A.c_House = true → ld.bet 0 (f - 1) = true → gd.isGs f = false → ∀ H' d, Go h c H H' → H' d = none → E (.ref A.c_BadStanding) (some d) (upd H' d (.xd [("part", .str "groups")]))) ∧
  (hD.isO A.cl A.c_House = true → ld.bet 0 (f - 1) = true → gd.isGs f = true → ∀ H', Go h c H H' → Q .non (upd H' x (.ins A.c_Standing dx [("house", hv), ("lift", lv), ("groups", gv)])))
theorem G_Standing___init__ (T : Txt K mg A) : FnOk P w K mg base (L2.CX P w) 5 A.a_Standing___init__ A.d_Standing___init__ ["self", "house", "lift", "groups"] (sp_Standing___init__ K A) := by
  refine T.F_Standing___init__.okX sc_Standing___init__ (fun vs H Q E h => ?_) (fun cdv A' outer s H vs Q E hr h => ?_)
  · obtain ⟨_, _, _, _, _, _, _, _, _, _, _, _, rfl, _⟩ := h; rfl
  · obtain ⟨h, c, x, dx, hv, lv, gv, f, r, hD, ld, gd, rfl, hd, nx, nxc, hx, rh, hO, rl, rg, k0, k1, k2, k3⟩ := h
    refine ⟨_, ((pss_cons (ps_if (pt_not (pt_val (pe_callB call_isi (by rfl) T.n_isinstance (by decide +kernel) (pa_cons (pv 1) (pa_cons (pe_glob (v := .ref A.c_House) (by rfl) T.g_House rfl) pa_nil))))) (pss_one (ps_raise rfl (takes_of rfl rfl rfl rfl) (pmk_oex T.oe_BadStanding T.i_BadStanding T.t_BadStanding (G_BadStanding___init__ T) (hr.mono (by decide)) T.b_BadStanding___init__ .nil pass0 rfl T.g_BadStanding (pa_cons pe_str pa_nil)))) pss_nil)
          (pss_cons (ps_if (pt_not (pt_val (pe_call (G_is_floor T) (hr.mono (by decide)) rfl T.g_is_floor T.F_is_floor.kp T.b_is_floor .nil pass0 (pa_cons (pv 1) (pa_cons (pv 2) pa_nil))))) (pss_one (ps_raise rfl (takes_of rfl rfl rfl rfl) (pmk_oex T.oe_BadStanding T.i_BadStanding T.t_BadStanding (G_BadStanding___init__ T) (hr.mono (by decide)) T.b_BadStanding___init__ .nil pass0 rfl T.g_BadStanding (pa_cons pe_str pa_nil)))) pss_nil)
          (pss_cons (ps_if (pt_not (pt_val (pe_call (G_is_bounded_groups T) (hr.mono (by decide)) rfl T.g_is_bounded_groups T.F_is_bounded_groups.kp T.b_is_bounded_groups .nil pass0 (pa_cons (pe_fld (pv 1) rfl) (pa_cons (pv 3) pa_nil))))) (pss_one (ps_raise rfl (takes_of rfl rfl rfl rfl) (pmk_oex T.oe_BadStanding T.i_BadStanding T.t_BadStanding (G_BadStanding___init__ T) (hr.mono (by decide)) T.b_BadStanding___init__ .nil pass0 rfl T.g_BadStanding (pa_cons pe_str pa_nil)))) pss_nil)
          (pss_cons (ps_fld (pv 0) (pv 1) rfl)
          (pss_cons (ps_fld (pv 0) (pv 2) rfl)
          (pss_one (ps_fld (pv 0) (pv 3) rfl)))))))), ?_⟩
    try dsimp only [cxOf, Cx.nox]
    (walk_at "zs")
    refine isi_own (c := 0) T.kits rh ?_
    (walk_at "zs")
    refine z_iteN (fun e0 => ?_) (fun e0 => ?_)
    · exact z_raiseC T.oe_BadStanding T.no_BadStanding (k0 e0)
    replace k1 := k1 e0
    replace k2 := k2 e0
    replace k3 := k3 e0
    obtain rfl := hO e0
    (walk_at "zs")
    refine ⟨h, hv, lv, ld, f, r, rfl, rh, rl, ?_⟩
    (walk_at "zs")
    refine z_iteN (fun e1 => ?_) (fun e1 => ?_)
    · exact z_raiseC T.oe_BadStanding T.no_BadStanding (k1 e1)
    · obtain ⟨xa, xd, xvs, rfl, na, hxa, sx, _⟩ := rh.ins_inv
      obtain ⟨_, _, rfl, q1, q2⟩ := sx.two
      cases q1
      cases q2
      (walk_at "zs")
      refine ⟨xa, _, xd, _, _, rfl, hxa, (T.kits.kit 0).cl, T.na_House_floors, lk_fst, ?_⟩
      (walk_at "zs")
      refine ⟨h, c, gv, gd, f, rfl, hd, rg, fun H1 g1 => ?_⟩
      (walk_at "zs")
      refine z_iteN (fun e2 => ?_) (fun e2 => ?_)
      · exact z_raiseC T.oe_BadStanding T.no_BadStanding (fun d hdn => k2 e1 e2 H1 d g1 hdn)
      · have hx1 := g1.1 _ _ nx hx
        (walk_at "zs")
        refine ⟨x, _, dx, _, rfl, hx1, (T.kits.kit 1).cl, T.na_Standing_house, by decide, ?_⟩
        (walk_at "zs")
        refine ⟨x, _, dx, _, rfl, upd_same, (T.kits.kit 1).cl, T.na_Standing_lift, by show 1 < 1000; decide, ?_⟩
        (walk_at "zs")
        refine ⟨x, _, dx, _, rfl, upd_same, (T.kits.kit 1).cl, T.na_Standing_groups, by show 2 < 1000; decide, ?_⟩
        (walk_at "zs")
        rw [upd_upd, upd_upd, putF_one, putF_more _ _ _ (by decide +kernel), putF_one, putF_more _ _ _ (by decide +kernel), putF_more _ _ _ (by decide +kernel)]
        exact k3 e1 e2 H1 g1
theorem z_stand {h c : Addr} {H : Hp} {hv lv gv : V} {f r l : Int} {gs : List G3} {Q : VK} {E : XK} (hd : Hd h c H) (rh : R A.cl h H hv (.hou f r)) (rl : R A.cl h H lv (.int l)) (rg : R A.cl h H gv (.tup (gs.map dG))) (l0 : 0 ≤ l) (l1 : l < f) (hg : Gs f gs)
    (q : ∀ x H', Go h c H H' → H x = none → R A.cl h H' (.ref x) (.stn f r l gs) → Q (.ref x) H') : newO A.c_Standing (sp_Standing___init__ K A) E Q [hv, lv, gv] H := by
  intro x dx nx nd ne
  have g0 := Go.ins0 (o := .ins A.c_Standing dx []) hd nx nd
  have hd0 := g0.2 hd
  have e1 : (Dt.int l).bet 0 (f - 1) = true := by
    show (decide (0 ≤ l) && decide (l ≤ f - 1)) = true
    rw [decide_eq_true l0, decide_eq_true (by omega)]
    rfl
  refine ⟨h, c, x, dx, hv, lv, gv, f, r, _, _, _, rfl, hd0, hd.ne nx, hd.nec nx, upd_same, g0.r rh, fun _ => rfl, g0.r rl, g0.r rg, fun z => ?_, fun _ z => ?_, fun _ _ z => ?_, fun _ _ _ H' g => ⟨rfl, ?_⟩⟩
  · have : decide (A.cl 0 = A.cl 0) = false := z
    simp at this
  · rw [e1] at z
    cases z
  · rw [hg.isGs] at z
    cases z
  · have gF := (g0.trans g).mut (o := .ins A.c_Standing dx [("house", hv), ("lift", lv), ("groups", gv)]) hd nx
    exact q x _ gF nx (.ins (cl := A.cl) (c := 1) (ns := ["house", "lift", "groups"]) (vs := [hv, lv, gv]) (hd.ne nx) upd_same rfl (.cons (gF.r rh) (.cons (gF.r rl) (.cons (gF.r rg) .nil))))
theorem sc__law_told : FnScope ["house", "lift", "groups", "told", "e"] ["house", "lift", "groups"] (defScope s__law_told) := ⟨rfl, rfl, rfl, by decide +kernel, rfl, by decide +kernel, by decide +kernel⟩
def toldD (hD ld gd : Dt) (f : Int) (b : Bool) : Dt := if b = false then .tup [.str "bad", .str "house"] else if ld.bet 0 (f - 1) = false then .tup [.str "bad", .str "lift"] else if gd.isGs f = false then .tup [.str "bad", .str "groups"] else .tup [.str "standing", .ins 1 ["house", "lift", "groups"] [hD, ld, gd]]
def sp__law_told (K : PySem.W.Frag) (A : Ad) : Sp := fun vs H Q E =>
  ∃ (h c : Addr) (hv lv gv : V) (f r : Int) (hD ld gd : Dt), vs = [hv, lv, gv] ∧ Hd h c H ∧ R A.cl h H hv hD ∧ (hD.isO A.cl A.c_House = true → hD = .hou f r) ∧ R A.cl h H lv ld ∧ R A.cl h H gv gd ∧
  ∀ (v : V) (H' : Hp), Go h c H H' → R A.cl h H' v (toldD hD ld gd f (hD.isO A.cl A.c_House)) → Q v H'
theorem G__law_told (T : Txt K mg A) : FnOk P w K mg base CX0 7 A.a__law_told A.d__law_told ["house", "lift", "groups"] (sp__law_told K A) := by
  refine T.F__law_told.ok sc__law_told (fun vs H Q E h => ?_) (fun cdv A' outer s H vs Q E hr h => ?_)
  · obtain ⟨_, _, _, _, _, _, _, _, _, _, rfl, _⟩ := h; rfl
  · obtain ⟨h, c, hv, lv, gv, f, r, hD, ld, gd, rfl, hd, rh, hO, rl, rg, q⟩ := h
    refine ⟨_, ((pss_cons (ps_set (i := 3) sc__law_told.nd rfl (Or.inl rfl) pe_non)
          (pss_cons (ps_try_as (i := 4) (tb := fun W => (tAsg (tTup (tCons (tC (.str "standing")) (tCons (tMakeS A.c_Standing (sp_Standing___init__ K A) (WE W) (tCons (tVar 0) (tCons (tVar 1) (tCons (tVar 2) tNil)))) tNil))) (gName 3))) (ts := fun a cls d => (tAsg (tTup (tCons (tC (.str "bad")) (tCons (tXf a cls d A.c_BadStanding "part" (tVar 4)) tNil))) (gName 3))) (Wout := fun _ _ _ _ => False) rfl rfl sc__law_told.nd rfl rfl ⟨rfl, by decide, .inl T.g_BadStanding⟩ takes0 (fun W pn xe tk _ => by exact (pss_one (ps_set (i := 3) sc__law_told.nd rfl (Or.inl rfl) (pe_tup (pa_cons pe_str (pa_cons (pe_makeS T.mk_Standing (G_Standing___init__ T) (hr.mono (by decide)) rfl T.g_Standing T.b_Standing___init__ (fun σ => passAt tk σ) (by exact (pa_cons (pv 0) (pa_cons (pv 1) (pa_cons (pv 2) pa_nil))))) pa_nil)))))) (fun a oe cls d pn hz hf => by exact (pss_one (ps_set (i := 3) sc__law_told.nd rfl (Or.inl rfl) (pe_tup (pa_cons pe_str (pa_cons (pe_xf T.xf_BadStanding T.no_BadStanding hz hf (by exact (pv 4))) pa_nil)))))))
          (pss_one (ps_ret (pv 3)))))), ?_⟩
    try dsimp only [cxOf, Cx.nox]
    (walk_at "zs")
    intro x dx nx nd ne
    have g0 := Go.ins0 (o := .ins A.c_Standing dx []) hd nx nd
    have hd0 := g0.2 hd
    refine ⟨h, c, x, dx, hv, lv, gv, f, r, hD, ld, gd, rfl, hd0, hd.ne nx, hd.nec nx, upd_same, g0.r rh, hO, g0.r rl, g0.r rg, fun e0 d hdn => ?_, fun e0 e1 d hdn => ?_, fun e0 e1 e2 H1 d g hdn => ?_, fun e0 e1 e2 H1 g => ⟨rfl, ?_⟩⟩
    · rw [e0] at q
      refine ⟨true, T.em_BadStanding_BadStanding, fun _ a na => ?_, fun z => Bool.noConfusion z⟩
      have g1 := Go.new (o := .xd [("part", .str "house")]) hd0 hdn
      (walk_at "zs")
      refine ⟨rfl, rfl, d, _, _, rfl, upd_same, lk_fst, ?_⟩
      (walk_at "zs")
      refine z_newT (cl := A.cl) (g1.2 hd0) (.cons (.str _) (.cons (.str _) .nil)) fun p2 H2 g2 _ r2' => ?_
      (walk_at "zs")
      exact q _ _ ((g0.trans g1).trans g2) r2'
    · rw [e0] at q
      unfold toldD at q
      rw [if_neg (by decide), e1, if_pos rfl] at q
      refine ⟨true, T.em_BadStanding_BadStanding, fun _ a na => ?_, fun z => Bool.noConfusion z⟩
      have g1 := Go.new (o := .xd [("part", .str "lift")]) hd0 hdn
      (walk_at "zs")
      refine ⟨rfl, rfl, d, _, _, rfl, upd_same, lk_fst, ?_⟩
      (walk_at "zs")
      refine z_newT (cl := A.cl) (g1.2 hd0) (.cons (.str _) (.cons (.str _) .nil)) fun p2 H2 g2 _ r2' => ?_
      (walk_at "zs")
      exact q _ _ ((g0.trans g1).trans g2) r2'
    · rw [e0] at q
      unfold toldD at q
      rw [if_neg (by decide), e1, if_neg (by decide), e2, if_pos rfl] at q
      refine ⟨true, T.em_BadStanding_BadStanding, fun _ a na => ?_, fun z => Bool.noConfusion z⟩
      have hd1 := g.2 hd0
      have g1 := Go.new (o := .xd [("part", .str "groups")]) hd1 hdn
      (walk_at "zs")
      refine ⟨rfl, rfl, d, _, _, rfl, upd_same, lk_fst, ?_⟩
      (walk_at "zs")
      refine z_newT (cl := A.cl) (g1.2 hd1) (.cons (.str _) (.cons (.str _) .nil)) fun p2 H2 g2 _ r2' => ?_
      (walk_at "zs")
      exact q _ _ (((g0.trans g).trans g1).trans g2) r2'
    · rw [e0] at q
      unfold toldD at q
      rw [if_neg (by decide), e1, if_neg (by decide), e2, if_neg (by decide)] at q
      have gF := (g0.trans g).mut (o := .ins A.c_Standing dx [("house", hv), ("lift", lv), ("groups", gv)]) hd nx
      have r3 : R A.cl h (upd H1 x (.ins A.c_Standing dx [("house", hv), ("lift", lv), ("groups", gv)])) (.ref x) (.ins 1 ["house", "lift", "groups"] [hD, ld, gd]) :=
        .ins (cl := A.cl) (c := 1) (ns := ["house", "lift", "groups"]) (vs := [hv, lv, gv]) (hd.ne nx) upd_same rfl (.cons (gF.r rh) (.cons (gF.r rl) (.cons (gF.r rg) .nil)))
      (walk_at "zs")
      refine z_newT (cl := A.cl) (gF.2 hd) (.cons (.str _) (.cons r3 .nil)) fun p2 H2 g2 _ r2' => ?_
      (walk_at "zs")
      exact q _ _ (gF.trans g2) r2'
theorem sc_House___eq__ : FnScope ["self", "other"] ["self", "other"] (defScope s_House___eq__) := ⟨rfl, rfl, rfl, by decide +kernel, rfl, by decide +kernel, by decide +kernel⟩
def sp_House___eq__ (K : PySem.W.Frag) (A : Ad) : Sp := fun vs H Q E =>
  ∃ (h : Addr) (v v' : V) (f r : Int) (d : Dt), vs = [v, v'] ∧ R A.cl h H v (.ins 0 ["floors", "room"] [.int f, .int r]) ∧ R A.cl h H v' d ∧ (d.isO A.cl A.c_House = true → ∃ f' r', d = .ins 0 ["floors", "room"] [.int f', .int r']) ∧
  ∀ b : Bool, (b = true ↔ d = .ins 0 ["floors", "room"] [.int f, .int r]) → Q (.bl b) H
theorem G_House___eq__ (T : Txt K mg A) : FnOk P w K mg base CX0 1 A.a_House___eq__ A.d_House___eq__ ["self", "other"] (sp_House___eq__ K A) := by
  refine T.F_House___eq__.ok sc_House___eq__ (fun vs H Q E h => ?_) (fun cdv A' outer s H vs Q E hr h => ?_)
  · obtain ⟨_, _, _, _, _, _, rfl, _⟩ := h; rfl
  · obtain ⟨h, v, v', f, r, d, rfl, rx, rv, hd, k⟩ := h
    refine ⟨_, ((pss_one (ps_ret (pe_and (pe_callB call_isi (by rfl) T.n_isinstance (by decide +kernel) (pa_cons (pv 1) (pa_cons (pe_glob (v := .ref A.c_House) (by rfl) T.g_House rfl) pa_nil))) (pe_and (pe_cmpR op_eq (pe_fld (pv 0) rfl) (pe_fld (pv 1) rfl) (nomark _)) (pe_one (pe_cmpR op_eq (pe_fld (pv 0) rfl) (pe_fld (pv 1) rfl) (nomark _)))))))), ?_⟩
    try dsimp only [cxOf, Cx.nox]
    (walk_at "zs")
    refine isi_own (c := 0) T.kits rv ?_
    (walk_at "zs")
    refine z_iteB (fun e => ?_) (fun e => ?_)
    · obtain ⟨f', r', rfl⟩ := hd e
      obtain ⟨x, dx, xs, rfl, _, hx, rs, _⟩ := rx.ins_inv
      obtain ⟨_, _, rfl, q1, q2⟩ := rs.two
      cases q1
      cases q2
      obtain ⟨y, dy, ys, rfl, _, hy, rt, _⟩ := rv.ins_inv
      obtain ⟨_, _, rfl, q1, q2⟩ := rt.two
      cases q1
      cases q2
      have nr : ¬ ("room" : Str) = "floors" := by decide +kernel
      (walk_at "zs")
      refine ⟨x, _, dx, _, _, rfl, hx, (T.kits.kit 0).cl, T.na_House_floors, lk_fst, ?_⟩
      (walk_at "zs")
      refine ⟨y, _, dy, _, _, rfl, hy, (T.kits.kit 0).cl, T.na_House_floors, lk_fst, ?_⟩
      (walk_at "zs")
      refine z_ite (fun e1 => ?_) (fun e1 => ?_)
      · (walk_at "zs")
        refine ⟨x, _, dx, _, _, rfl, hx, (T.kits.kit 0).cl, T.na_House_room, (lk_nxt nr).trans lk_fst, ?_⟩
        (walk_at "zs")
        refine ⟨y, _, dy, _, _, rfl, hy, (T.kits.kit 0).cl, T.na_House_room, (lk_nxt nr).trans lk_fst, ?_⟩
        (walk_at "zs")
        refine k _ ?_
        rw [decide_eq_true_iff, e1]
        exact ⟨fun z => by rw [z], fun z => by injection z with _ _ z; injection z with _ z; injection z with z _; injection z with z; exact z.symm⟩
      · (walk_at "zs")
        refine k _ ⟨fun z => Bool.noConfusion z, fun z => absurd ?_ e1⟩
        injection z with _ _ z
        injection z with z _
        injection z with z
        exact z.symm
    · refine k false ⟨fun z => Bool.noConfusion z, fun z => ?_⟩
      rw [z] at e
      have : decide (A.cl 0 = A.cl 0) = false := e
      simp at this
theorem hou_inj {f r f' r' : Int} {n n' : List Str} {c c' : Nat} : Dt.ins c n [.int f, .int r] = Dt.ins c' n' [.int f', .int r'] ↔ c = c' ∧ n = n' ∧ f = f' ∧ r = r' := by
  constructor
  · intro z
    injection z with y1 y2 y
    injection y with y3 y
    injection y with y4 _
    injection y3 with y3
    injection y4 with y4
    exact ⟨y1, y2, y3, y4⟩
  · rintro ⟨rfl, rfl, rfl, rfl⟩
    rfl
theorem z_hh {h : Addr} {H : Hp} {v v' : V} {f r f' r' : Int} {Q : VK} {E : XK} (T : Txt K mg A) (rx : R A.cl h H v (.ins 0 ["floors", "room"] [.int f, .int r])) (ry : R A.cl h H v' (.ins 0 ["floors", "room"] [.int f', .int r'])) (q : Q (.bl (decide (f' = f ∧ r' = r))) H) :
    rEqO K A.c_House (sp_House___eq__ K A) E v v' H Q := by
  refine z_eqO (cl := A.cl) (c := 0) T.kits rx ry ⟨h, v, v', f, r, _, rfl, rx, ry, fun _ => ⟨_, _, rfl⟩, fun b hb => ?_⟩
  have e : b = decide (f' = f ∧ r' = r) := by
    rw [Bool.eq_iff_iff, decide_eq_true_iff, hb, hou_inj]
    exact ⟨fun z => z.2.2, fun z => ⟨rfl, rfl, z⟩⟩
  rw [e]
  exact q
theorem z_hhN {h : Addr} {H : Hp} {v v' : V} {f r f' r' : Int} {Q : VK} {E : XK} (T : Txt K mg A) (rx : R A.cl h H v (.ins 0 ["floors", "room"] [.int f, .int r])) (ry : R A.cl h H v' (.ins 0 ["floors", "room"] [.int f', .int r'])) (q : Q (.bl (!decide (f' = f ∧ r' = r))) H) :
    rNeO K A.c_House (sp_House___eq__ K A) E v v' H Q := by
  refine z_neO (cl := A.cl) (c := 0) T.kits rx ry ⟨h, v, v', f, r, _, rfl, rx, ry, fun _ => ⟨_, _, rfl⟩, fun b hb => ⟨b, rfl, ?_⟩⟩
  have e : b = decide (f' = f ∧ r' = r) := by
    rw [Bool.eq_iff_iff, decide_eq_true_iff, hb, hou_inj]
    exact ⟨fun z => z.2.2, fun z => ⟨rfl, rfl, z⟩⟩
  rw [e]
  exact q
theorem z_ho {h : Addr} {H : Hp} {v v' : V} {f r : Int} {d : Dt} {Q : VK} {E : XK} (T : Txt K mg A) (rx : R A.cl h H v (.ins 0 ["floors", "room"] [.int f, .int r])) (ry : R A.cl h H v' d) (n : d.isO A.cl A.c_House = false) (q : Q (.bl false) H) :
    rEqO K A.c_House (sp_House___eq__ K A) E v v' H Q := by
  refine z_eqO (cl := A.cl) (c := 0) T.kits rx ry ⟨h, v, v', f, r, _, rfl, rx, ry, fun z => (by rw [n] at z; cases z), fun b hb => ?_⟩
  have e : b = false := by
    cases b with
    | false => rfl
    | true =>
      rw [hb.mp rfl] at n
      have z : decide (A.cl 0 = A.cl 0) = false := n
      simp at z
  rw [e]
  exact q
theorem z_hoN {h : Addr} {H : Hp} {v v' : V} {f r : Int} {d : Dt} {Q : VK} {E : XK} (T : Txt K mg A) (rx : R A.cl h H v (.ins 0 ["floors", "room"] [.int f, .int r])) (ry : R A.cl h H v' d) (n : d.isO A.cl A.c_House = false) (q : Q (.bl true) H) :
    rNeO K A.c_House (sp_House___eq__ K A) E v v' H Q := by
  refine z_neO (cl := A.cl) (c := 0) T.kits rx ry ⟨h, v, v', f, r, _, rfl, rx, ry, fun z => (by rw [n] at z; cases z), fun b hb => ⟨b, rfl, ?_⟩⟩
  have e : b = false := by
    cases b with
    | false => rfl
    | true =>
      rw [hb.mp rfl] at n
      have z : decide (A.cl 0 = A.cl 0) = false := n
      simp at z
  rw [e]
  exact q
theorem sc__law_is_int : FnScope ["thing", "least", "most"] ["thing", "least", "most"] (defScope s__law_is_int) := ⟨rfl, rfl, rfl, by decide +kernel, rfl, by decide +kernel, by decide +kernel⟩
def sp__law_is_int (K : PySem.W.Frag) (A : Ad) : Sp := fun vs H Q E =>
  ∃ (h : Addr) (v : V) (d : Dt) (a b : Int), vs = [v, .int a, .int b] ∧ R A.cl h H v d ∧ Q (.bl (d.bet a b)) H
theorem G__law_is_int (T : Txt K mg A) : FnOk P w K mg base CX0 1 A.a__law_is_int A.d__law_is_int ["thing", "least", "most"] (sp__law_is_int K A) := by
  refine T.F__law_is_int.ok sc__law_is_int (fun vs H Q E h => ?_) (fun cdv A' outer s H vs Q E hr h => ?_)
  · obtain ⟨_, _, _, _, _, rfl, _⟩ := h; rfl
  · obtain ⟨h, v, d, a, b, rfl, r, k⟩ := h
    refine ⟨_, ((pss_one (ps_ret (pe_and (pe_callB call_isi (by rfl) T.n_isinstance (by decide +kernel) (pa_cons (pv 0) (pa_cons (pe_bltn (v := .ty "int") (by rfl) T.n_int (by decide +kernel) rfl) pa_nil))) (pe_and (pe_not (pe_callB call_isi (by rfl) T.n_isinstance (by decide +kernel) (pa_cons (pv 0) (pa_cons (pe_bltn (v := .ty "bool") (by rfl) T.n_bool (by decide +kernel) rfl) pa_nil)))) (pe_one (pe_chain op_le op_le (pv 1) (pv 0) (pv 2)))))))), ?_⟩
    try dsimp only [cxOf, Cx.nox]
    (walk_at "zs")
    refine isi_int T.kits r ?_
    (walk_at "zs")
    refine z_iteB (fun e => ?_) (fun e => ?_)
    · (walk_at "zs")
      refine isi_bool T.kits r ?_
      (walk_at "zs")
      refine z_iteN (fun e2 => ?_) (fun e2 => ?_)
      · obtain ⟨i, rfl⟩ := Dt.of_isN (d := d) (by rw [d.isN_eq, e, e2]; rfl)
        cases r
        (walk_at "zs")
        refine z_ite (fun e1 => ?_) (fun e1 => ?_)
        · (walk_at "zs")
          have q : (Dt.int i).bet a b = decide (i ≤ b) := by show (decide (a ≤ i) && decide (i ≤ b)) = _; rw [decide_eq_true e1]; rfl
          rw [q] at k
          exact k
        · have q : (Dt.int i).bet a b = false := by show (decide (a ≤ i) && decide (i ≤ b)) = _; rw [decide_eq_false e1]; rfl
          rw [q] at k
          exact k
      · have q : d.bet a b = false := by cases d <;> first | rfl | (exact Bool.noConfusion e2)
        rw [q] at k
        exact k
    · have q : d.bet a b = false := by cases d <;> first | rfl | (exact Bool.noConfusion e)
      rw [q] at k
      exact k
theorem sc__law_is_group : FnScope ["thing", "floors"] ["thing", "floors"] (defScope s__law_is_group) := ⟨rfl, rfl, rfl, by decide +kernel, rfl, by decide +kernel, by decide +kernel⟩
def sp__law_is_group (K : PySem.W.Frag) (A : Ad) : Sp := fun vs H Q E =>
  ∃ (h : Addr) (v : V) (d : Dt) (f : Int), vs = [v, .int f] ∧ R A.cl h H v d ∧ Q (.bl (d.isG4 f)) H
theorem G__law_is_group (T : Txt K mg A) : FnOk P w K mg base CX0 2 A.a__law_is_group A.d__law_is_group ["thing", "floors"] (sp__law_is_group K A) := by
  refine T.F__law_is_group.ok sc__law_is_group (fun vs H Q E h => ?_) (fun cdv A' outer s H vs Q E hr h => ?_)
  · obtain ⟨_, _, _, _, rfl, _⟩ := h; rfl
  · obtain ⟨h, v, d, f, rfl, r, k⟩ := h
    refine ⟨_, ((pss_cons (ps_if (PW.pt (pw_or (pt_not (pt_val (pe_callB call_isi (by rfl) T.n_isinstance (by decide +kernel) (pa_cons (pv 0) (pa_cons (pe_bltn (v := .ty "tuple") (by rfl) T.n_tuple (by decide +kernel) rfl) pa_nil))))) (pw_or (pt_cmpR op_ne (pe_callB call_len_seq (by rfl) T.n_len (by decide +kernel) (pa_cons (pv 0) pa_nil)) pe_int (nomark _)) (pw_or1 (pt_not (pt_val (pe_call (G__law_is_int T) (hr.mono (by decide)) rfl T.g__law_is_int T.F__law_is_int.kp T.b__law_is_int .nil pass0 (pa_cons (pe_ix (show IxR _ (rIxT K) from ix_tup) (pv 0) pe_int (fun _ _ => rfl)) (pa_cons pe_int (pa_cons (pe_op op_sub (pv 1) pe_int) pa_nil)))))))))) (pss_one (ps_ret pe_bl)) pss_nil)
          (pss_one (ps_ret (pe_and (pe_call (G__law_is_int T) (hr.mono (by decide)) rfl T.g__law_is_int T.F__law_is_int.kp T.b__law_is_int .nil pass0 (pa_cons (pe_ix (show IxR _ (rIxT K) from ix_tup) (pv 0) pe_int (fun _ _ => rfl)) (pa_cons pe_int (pa_cons (pe_op op_sub (pv 1) pe_int) pa_nil)))) (pe_one (pe_call (G__law_is_int T) (hr.mono (by decide)) rfl T.g__law_is_int T.F__law_is_int.kp T.b__law_is_int .nil pass0 (pa_cons (pe_ix (show IxR _ (rIxT K) from ix_tup) (pv 0) pe_int (fun _ _ => rfl)) (pa_cons pe_int (pa_cons (pe_op op_pow pe_int pe_int) pa_nil)))))))))), ?_⟩
    try dsimp only [cxOf, Cx.nox]
    (walk_at "zs")
    refine isi_tup T.kits r ?_
    (walk_at "zs")
    refine z_iteN (fun e => ?_) (fun e => ?_)
    · (walk_at "zs")
      have q : d.isG4 f = false := by cases d <;> first | rfl | (exact Bool.noConfusion e)
      rw [q] at k
      exact k
    · obtain ⟨l, rfl⟩ : ∃ l, d = .tup l := by cases d <;> first | exact ⟨_, rfl⟩ | exact Bool.noConfusion e
      obtain ⟨a, vs, rfl, _, ha, s⟩ := r.tup_inv
      (walk_at "zs")
      refine ⟨_, _, rfl, .inr (.inl (.inl ha)), ?_⟩
      rw [s.len]
      (walk_at "zs")
      refine z_iteD (fun e1 => ?_) (fun e1 => ?_)
      · (walk_at "zs")
        rw [Dt.isG4_tupn (d := .tup l) (decide_eq_false (show ¬ l.length = 3 from fun z => e1 (by rw [z]; rfl)))] at k
        exact k
      · obtain ⟨da, db, dc, rfl⟩ := len3 (l := l) (by omega)
        obtain ⟨va, vb, vc, rfl, ra, rb, rc⟩ := s.three
        have k' : Q (.bl ((da.bet 0 (f - 1) && db.bet 0 (f - 1)) && dc.bet 1 10000000000000000000000000000000000000000)) H := k
        (walk_at "zs")
        refine z_ixT (SqT.of ha) rfl ?_
        (walk_at "zs")
        refine ⟨h, va, da, _, _, rfl, ra, ?_⟩
        (walk_at "zs")
        refine z_iteN (fun e2 => ?_) (fun e2 => ?_)
        · (walk_at "zs")
          rw [e2] at k'
          exact k'
        · rw [e2] at k'
          (walk_at "zs")
          refine z_ixT (SqT.of ha) rfl ?_
          (walk_at "zs")
          refine ⟨h, vb, db, _, _, rfl, rb, ?_⟩
          (walk_at "zs")
          refine z_iteB (fun e3 => ?_) (fun e3 => ?_)
          · rw [e3] at k'
            (walk_at "zs")
            refine z_ixT (SqT.of ha) rfl ?_
            (walk_at "zs")
            refine z_pow (n := 10000000000000000000000000000000000000000) ⟨by decide, by decide, by decide⟩ rfl ?_
            (walk_at "zs")
            exact ⟨h, vc, dc, _, _, rfl, rc, k'⟩
          · rw [e3] at k'
            exact k'
theorem sc__law_are_groups : FnScope ["thing", "floors", "k"] ["thing", "floors"] (defScope s__law_are_groups) := ⟨rfl, rfl, rfl, by decide +kernel, rfl, by decide +kernel, by decide +kernel⟩
def sp__law_are_groups (K : PySem.W.Frag) (A : Ad) : Sp := fun vs H Q E =>
  ∃ (h c : Addr) (v : V) (d : Dt) (f : Int), vs = [v, .int f] ∧ Hd h c H ∧ R A.cl h H v d ∧ ∀ H', Go h c H H' → Q (.bl (d.isGs f)) H'
theorem G__law_are_groups (T : Txt K mg A) : FnOk P w K mg base CX0 3 A.a__law_are_groups A.d__law_are_groups ["thing", "floors"] (sp__law_are_groups K A) := by
  refine T.F__law_are_groups.ok sc__law_are_groups (fun vs H Q E h => ?_) (fun cdv A' outer s H vs Q E hr h => ?_)
  · obtain ⟨_, _, _, _, _, rfl, _⟩ := h; rfl
  · obtain ⟨h, c, v, d, f, rfl, hd, r, k⟩ := h
    refine ⟨_, ((pss_cons (ps_if (PW.pt (pw_or (pt_not (pt_val (pe_callB call_isi (by rfl) T.n_isinstance (by decide +kernel) (pa_cons (pv 0) (pa_cons (pe_bltn (v := .ty "tuple") (by rfl) T.n_tuple (by decide +kernel) rfl) pa_nil))))) (pw_or1 (pt_cmpR op_gt (pe_callB call_len_seq (by rfl) T.n_len (by decide +kernel) (pa_cons (pv 0) pa_nil)) pe_int (nomark _))))) (pss_one (ps_ret pe_bl)) pss_nil)
          (pss_cons (ps_for PassesOwn.never rfl (pi_range1 (by rfl) T.n_range (pa_cons (pe_callB call_len_seq (by rfl) T.n_len (by decide +kernel) (pa_cons (pv 0) pa_nil)) pa_nil)) (pg_name (i := 2) sc__law_are_groups.nd rfl (Or.inl rfl))
          (pss_cons (ps_if (PW.pt (pw_or (pt_not (pt_val (pe_call (G__law_is_group T) (hr.mono (by decide)) rfl T.g__law_is_group T.F__law_is_group.kp T.b__law_is_group .nil pass0 (pa_cons (pe_ix (show IxR _ (rIxT K) from ix_tup) (pv 0) (pv 2) (fun _ _ => rfl)) (pa_cons (pv 1) pa_nil))))) (pw_or1 (pt_cmpR op_gt (pe_ix (show IxR _ (rIxT K) from ix_tup) (pe_ix (show IxR _ (rIxT K) from ix_tup) (pv 0) (pv 2) (fun _ _ => rfl)) pe_int (fun _ _ => rfl)) (pe_op op_pow pe_int pe_int) (nomark _))))) (pss_one (ps_ret pe_bl)) pss_nil)
          (pss_one (ps_if (PW.pt (pw_and (pt_cmpR op_gt (pv 2) pe_int (nomark _)) (pw_and1 (pt_cmpR (show OpR _ _ (rGeT K) from op_geT hr.units0) (pe_slice sl_tup (pe_ix (show IxR _ (rIxT K) from ix_tup) (pv 0) (pe_op op_sub (pv 2) pe_int) (fun _ _ => rfl)) po_none (po_some pe_int)) (pe_slice sl_tup (pe_ix (show IxR _ (rIxT K) from ix_tup) (pv 0) (pv 2) (fun _ _ => rfl)) po_none (po_some pe_int)) (nomark _))))) (pss_one (ps_ret pe_bl)) pss_nil))))
          (pss_one (ps_ret pe_bl))))), ?_⟩
    try dsimp only [cxOf, Cx.nox]
    (walk_at "zs")
    refine isi_tup T.kits r ?_
    (walk_at "zs")
    refine z_iteN (fun e => ?_) (fun e => ?_)
    · (walk_at "zs")
      have q : d.isGs f = false := by cases d <;> first | rfl | (exact Bool.noConfusion e)
      rw [q] at k
      exact k _ (Go.refl H)
    · obtain ⟨l, rfl⟩ : ∃ l, d = .tup l := by cases d <;> first | exact ⟨_, rfl⟩ | exact Bool.noConfusion e
      obtain ⟨a, vs, rfl, na, ha, s⟩ := r.tup_inv
      have k' : ∀ H', Go h c H H' → Q (.bl (decide (l.length ≤ 400) && scan f (-1) (-1) l)) H' := k
      (walk_at "zs")
      refine ⟨_, _, rfl, .inr (.inl (.inl ha)), ?_⟩
      (walk_at "zs")
      rw [s.len]
      refine z_ite (fun e1 => ?_) (fun e1 => ?_)
      · (walk_at "zs")
        rw [decide_eq_false (by omega)] at k'
        exact k' _ (Go.refl H)
      · rw [decide_eq_true (by omega)] at k'
        have k2 : ∀ H', Go h c H H' → Q (.bl (scan f (-1) (-1) l)) H' := k'
        (walk_at "zs")
        refine ⟨_, _, rfl, .inr (.inl (.inl ha)), ?_⟩
        rw [s.len]
        (walk_at "zs")
        refine ⟨_, rfl, by omega, by omega, for_range (lo := 0) (n := l.length) (fun i σ HH => ∃ x y u, σ = [some (.ref a), some (.int f), u] ∧ Go h c H HH ∧ scan f (-1) (-1) l = scan f x y (l.drop i) ∧ (i = 0 → x = -1 ∧ y = -1) ∧ (∀ j, i = j + 1 → ∃ g : G3, l[j]? = some (dG g) ∧ g.1 = x ∧ g.2.1 = y))
          ⟨-1, -1, _, rfl, Go.refl H, rfl, fun _ => ⟨rfl, rfl⟩, fun j z => by cases z⟩ ?_ ?_⟩
        · rintro i σ H2 il ⟨px, py, u, rfl, g2, es, z0, zj⟩
          have hd2 := g2.2 hd
          have hdx : l[i]? = some l[i] := List.getElem?_eq_getElem il
          obtain ⟨x, hx, rx0⟩ := s.at hdx
          have rx := g2.r rx0
          have ed : l.drop i = l[i] :: l.drop (i + 1) := List.drop_eq_getElem_cons il
          have ax : atI vs (0 + (i : Int)) = some x := by rw [Int.zero_add]; exact atI_nat hx
          rw [ed] at es
          generalize l[i] = dx at hdx rx es
          have ha2 := g2.1 _ _ na ha
          (walk_at "zs")
          refine z_ixT (SqT.of ha2) ax ?_
          (walk_at "zs")
          refine ⟨h, x, dx, f, rfl, rx, ?_⟩
          (walk_at "zs")
          refine z_iteN (fun e2 => ?_) (fun e2 => ?_)
          · (walk_at "zs")
            rw [es, scan_no4 e2] at k2
            exact k2 _ g2
          · obtain ⟨g, rfl, e3⟩ := Dt.isG4_int e2
            rw [scan_cons e3] at es
            obtain ⟨ga, gvs, rfl, nga, hga, sg⟩ := rx.tup_inv
            obtain ⟨_, _, _, rfl, q1, q2, q3⟩ := sg.three
            cases q1
            cases q2
            cases q3
            (walk_at "zs")
            refine z_ixT (SqT.of ha2) ax ?_
            (walk_at "zs")
            refine z_ixT (SqT.of hga) rfl ?_
            (walk_at "zs")
            refine z_pow (n := 1000000000000000000000000000000) ⟨by decide, by decide, by decide⟩ rfl ?_
            (walk_at "zs")
            refine z_ite (fun e4 => ?_) (fun e4 => ?_)
            · (walk_at "zs")
              rw [es, decide_eq_false (by omega)] at k2
              exact k2 _ g2
            · rw [decide_eq_true (show g.2.2 ≤ 1000000000000000000000000000000 by omega)] at es
              have es' : scan f (-1) (-1) l = (gtP g.1 g.2.1 px py && scan f g.1 g.2.1 (l.drop (i + 1))) := by rw [es]; simp
              (walk_at "zs")
              refine z_ite (fun e5 => ?_) (fun e5 => ?_)
              · obtain ⟨j, rfl⟩ : ∃ j, i = j + 1 := ⟨i - 1, by omega⟩
                obtain ⟨u0, hu0, rfl, rfl⟩ := zj j rfl
                obtain ⟨x0, hx0, rx1⟩ := s.at hu0
                have ru := g2.r rx1
                obtain ⟨ua, uvs, rfl, nua, hua, su⟩ := ru.tup_inv
                obtain ⟨_, _, _, rfl, q1, q2, q3⟩ := su.three
                cases q1
                cases q2
                cases q3
                (walk_at "zs")
                refine z_ixT (SqT.of ha2) (show atI vs (0 + ((j + 1 : Nat) : Int) - 1) = some (.ref ua) from by rw [show (0 + ((j + 1 : Nat) : Int) - 1) = ((j : Nat) : Int) by omega]; exact atI_nat hx0) ?_
                (walk_at "zs")
                refine z_slT2 hua fun p3 np3 => ?_
                have g3 := Go.new (o := .tup [.int u0.1, .int u0.2.1]) hd2 np3
                have hd3 := g3.2 hd2
                (walk_at "zs")
                refine z_ixT (SqT.of (g3.1 _ _ na ha2)) ax ?_
                (walk_at "zs")
                refine z_slT2 (g3.1 _ _ nga hga) fun p4 np4 => ?_
                have g4 := Go.new (o := .tup [.int g.1, .int g.2.1]) hd3 np4
                refine z_geT2 (a := g.1) (b := g.2.1) (x := u0.1) (y := u0.2.1) (g4.1 _ _ (hd2.ne np3) upd_same) upd_same ?_
                (walk_at "zs")
                refine z_iteN (fun e6 => ?_) (fun e6 => ?_)
                · (walk_at "zs")
                  rw [es', e6] at k2
                  exact k2 _ ((g2.trans g3).trans g4)
                · (walk_at "zs")
                  refine ⟨g.1, g.2.1, _, rfl, (g2.trans g3).trans g4, by rw [es', e6]; simp, fun z => by omega, fun j' z => ⟨g, ?_, rfl, rfl⟩⟩
                  rw [← hdx]
                  congr 1
                  omega
              · (walk_at "zs")
                have i0 : i = 0 := by omega
                obtain ⟨rfl, rfl⟩ := z0 i0
                have e6 : gtP g.1 g.2.1 (-1) (-1) = true := by
                  obtain ⟨g', eg, y1, _⟩ := Dt.isG_int e3
                  have := dG_inj0 eg
                  subst this
                  unfold gtP
                  rw [decide_eq_false (by omega)]
                  rfl
                refine ⟨g.1, g.2.1, _, rfl, g2, by rw [es', e6]; simp, fun z => by omega, fun j' z => ⟨g, ?_, rfl, rfl⟩⟩
                rw [← hdx]
                congr 1
                omega
        · rintro σ H2 ⟨px, py, u, rfl, g2, es, _, _⟩
          (walk_at "zs")
          rw [List.drop_length] at es
          have z : scan f px py [] = true := rfl
          rw [es, z] at k2
          exact k2 _ g2
theorem sc__law_right : FnScope ["house", "is_house", "lift", "groups", "floors", "kind", "told", "due"] ["house", "is_house", "lift", "groups", "floors"] (defScope s__law_right) := ⟨rfl, rfl, rfl, by decide +kernel, rfl, by decide +kernel, by decide +kernel⟩
def sp__law_right (K : PySem.W.Frag) (A : Ad) : Sp := fun vs H Q E =>
  ∃ (h c : Addr) (hv lv gv : V) (b : Bool) (f r : Int) (hD ld gd : Dt), vs = [hv, .bl b, lv, gv, .int f] ∧ Hd h c H ∧ R A.cl h H hv hD ∧ b = hD.isO A.cl A.c_House ∧ (b = true → hD = .hou f r) ∧ R A.cl h H lv ld ∧ R A.cl h H gv gd ∧ ∀ (H' : Hp), Go h c H H' → Q (.bl true) H'
theorem G__law_right (T : Txt K mg A) : FnOk P w K mg base CX0 8 A.a__law_right A.d__law_right ["house", "is_house", "lift", "groups", "floors"] (sp__law_right K A) := by
  refine T.F__law_right.ok sc__law_right (fun vs H Q E h => ?_) (fun cdv A' outer s H vs Q E hr h => ?_)
  · obtain ⟨_, _, _, _, _, _, _, _, _, _, _, rfl, _⟩ := h; rfl
  · obtain ⟨h, c, hv, lv, gv, b, f, r, hD, ld, gd, rfl, hd, rh, hb, hO, rl, rg, q⟩ := h
    refine ⟨_, ((pss_cons (ps_asg (pe_call (G__law_told T) (hr.mono (by decide)) rfl T.g__law_told T.F__law_told.kp T.b__law_told .nil pass0 (pa_cons (pv 0) (pa_cons (pv 2) (pa_cons (pv 3) pa_nil)))) (pg_tup (by rfl) (pgs_cons (pg_name (i := 5) sc__law_right.nd rfl (Or.inl rfl)) (pgs_cons (pg_name (i := 6) sc__law_right.nd rfl (Or.inl rfl)) pgs_nil))))
          (pss_cons (ps_set (i := 7) sc__law_right.nd rfl (Or.inl rfl) pe_str)
          (pss_cons (ps_if (pt_not (pt_val (pv 1))) (pss_one (ps_set (i := 7) sc__law_right.nd rfl (Or.inl rfl) pe_str)) (pss_one (ps_if (pt_not (pt_val (pe_call (G__law_is_int T) (hr.mono (by decide)) rfl T.g__law_is_int T.F__law_is_int.kp T.b__law_is_int .nil pass0 (pa_cons (pv 2) (pa_cons pe_int (pa_cons (pe_op op_sub (pv 4) pe_int) pa_nil)))))) (pss_one (ps_set (i := 7) sc__law_right.nd rfl (Or.inl rfl) pe_str)) (pss_one (ps_if (pt_not (pt_val (pe_call (G__law_are_groups T) (hr.mono (by decide)) rfl T.g__law_are_groups T.F__law_are_groups.kp T.b__law_are_groups .nil pass0 (pa_cons (pv 3) (pa_cons (pv 4) pa_nil))))) (pss_one (ps_set (i := 7) sc__law_right.nd rfl (Or.inl rfl) pe_str)) pss_nil)))))
          (pss_cons (ps_if (pt_cmpR op_ne (pv 7) pe_str (nomark _)) (pss_one (ps_ret (pe_and (pe_cmpR op_eq (pv 5) pe_str (nomark _)) (pe_one (pe_cmpR op_eq (pv 6) (pv 7) (nomark _)))))) pss_nil)
          (pss_cons (ps_if (PW.pt (pw_or (pt_cmpR op_ne (pv 5) pe_str (nomark _)) (pw_or (pt_not (pt_val (pe_callB call_isi (by rfl) T.n_isinstance (by decide +kernel) (pa_cons (pv 6) (pa_cons (pe_glob (v := .ref A.c_Standing) (by rfl) T.g_Standing rfl) pa_nil))))) (pw_or (pt_not (pt_cmpR (op_eqO (E := E0) (G_House___eq__ T) (hr.mono (by decide)) T.eq_House T.F_House___eq__i T.b_House___eq__ pass0) (pe_fld (pv 6) rfl) (pv 0) (nomark _))) (pw_or1 (pt_cmpR op_ne (pe_fld (pv 6) rfl) (pv 2) (nomark _))))))) (pss_one (ps_ret pe_bl)) pss_nil)
          (pss_cons (ps_if (PW.pt (pw_or (pt_val (pe_callB call_isi (by rfl) T.n_isinstance (by decide +kernel) (pa_cons (pe_fld (pv 6) rfl) (pa_cons (pe_bltn (v := .ty "bool") (by rfl) T.n_bool (by decide +kernel) rfl) pa_nil)))) (pw_or1 (pt_not (pt_val (pe_callB call_isi (by rfl) T.n_isinstance (by decide +kernel) (pa_cons (pe_fld (pv 6) rfl) (pa_cons (pe_bltn (v := .ty "tuple") (by rfl) T.n_tuple (by decide +kernel) rfl) pa_nil)))))))) (pss_one (ps_ret pe_bl)) pss_nil)
          (pss_one (ps_ret (pe_and (pe_cmpR (op_eqD hr.units) (pe_fld (pv 6) rfl) (pv 3) (nomark _)) (pe_one (pe_call (G__law_are_groups T) (hr.mono (by decide)) rfl T.g__law_are_groups T.F__law_are_groups.kp T.b__law_are_groups .nil pass0 (pa_cons (pe_fld (pv 6) rfl) (pa_cons (pv 4) pa_nil)))))))))))))), ?_⟩
    try dsimp only [cxOf, Cx.nox]
    (walk_at "zs")
    refine ⟨h, c, hv, lv, gv, f, r, hD, ld, gd, rfl, hd, rh, fun z => hO (hb.trans z), rl, rg, fun tv H1 g1 rt => ?_⟩
    have hd1 := g1.2 hd
    rw [← hb] at rt
    have rl1 := g1.r rl
    have rg1 := g1.r rg
    have rh1 := g1.r rh
    unfold toldD at rt
    cases b with
    | false =>
      rw [if_pos rfl] at rt
      obtain ⟨ta, tvs, rfl, _, ht, st⟩ := rt.tup_inv
      obtain ⟨_, _, rfl, q1, q2⟩ := st.two
      cases q1
      cases q2
      refine z_gtup ht rfl ?_
      (walk_at "zs")
      refine z_neS true (by decide +kernel) ?_
      (walk_at "zs")
      refine z_eqS true (by decide +kernel) ?_
      (walk_at "zs")
      refine z_eqS true (by decide +kernel) ?_
      exact q _ g1
    | true =>
      rw [if_neg (by decide)] at rt
      obtain rfl := hO rfl
      cases e1 : ld.bet 0 (f - 1) with
      | false =>
        rw [e1, if_pos rfl] at rt
        obtain ⟨ta, tvs, rfl, _, ht, st⟩ := rt.tup_inv
        obtain ⟨_, _, rfl, q1, q2⟩ := st.two
        cases q1
        cases q2
        refine z_gtup ht rfl ?_
        (walk_at "zs")
        refine ⟨h, lv, ld, _, _, rfl, rl1, ?_⟩
        rw [e1]
        (walk_at "zs")
        refine z_neS true (by decide +kernel) ?_
        (walk_at "zs")
        refine z_eqS true (by decide +kernel) ?_
        (walk_at "zs")
        refine z_eqS true (by decide +kernel) ?_
        exact q _ g1
      | true =>
        rw [e1, if_neg (by decide)] at rt
        cases e2 : gd.isGs f with
        | false =>
          rw [e2, if_pos rfl] at rt
          obtain ⟨ta, tvs, rfl, nta, ht, st⟩ := rt.tup_inv
          obtain ⟨_, _, rfl, q1, q2⟩ := st.two
          cases q1
          cases q2
          refine z_gtup ht rfl ?_
          (walk_at "zs")
          refine ⟨h, lv, ld, _, _, rfl, rl1, ?_⟩
          rw [e1]
          (walk_at "zs")
          refine ⟨h, c, gv, gd, f, rfl, hd1, rg1, fun H2 g2 => ?_⟩
          rw [e2]
          (walk_at "zs")
          refine z_neS true (by decide +kernel) ?_
          (walk_at "zs")
          refine z_eqS true (by decide +kernel) ?_
          (walk_at "zs")
          refine z_eqS true (by decide +kernel) ?_
          exact q _ (g1.trans g2)
        | true =>
          rw [e2, if_neg (by decide)] at rt
          obtain ⟨gs, rfl⟩ := isGs_G e2
          obtain ⟨l, rfl, l0, l1⟩ := Dt.bet_int e1
          cases rl
          obtain ⟨ta, tvs, rfl, nta, ht, st⟩ := rt.tup_inv
          obtain ⟨_, sv, rfl, q1, rs⟩ := st.two
          cases q1
          refine z_gtup ht rfl ?_
          (walk_at "zs")
          refine ⟨h, _, _, _, _, rfl, rl1, ?_⟩
          rw [e1]
          (walk_at "zs")
          refine ⟨h, c, gv, _, f, rfl, hd1, rg1, fun H2 g2 => ?_⟩
          rw [e2]
          have hd2 := g2.2 hd1
          have rs2 : R A.cl h H2 sv (.stn f r l gs) := g2.r rs
          obtain ⟨sa, sd, shv, sgv, rfl, nsa, hsa, srh, srg⟩ := rs2.stn_inv
          have n1 : ¬ ("lift" : Str) = "house" := by decide +kernel
          have n2 : ¬ ("groups" : Str) = "house" := by decide +kernel
          have n3 : ¬ ("groups" : Str) = "lift" := by decide +kernel
          (walk_at "zs")
          refine z_neS false (by decide +kernel) ?_
          (walk_at "zs")
          refine z_neS false (by decide +kernel) ?_
          (walk_at "zs")
          refine isi_own (c := 1) T.kits rs2 ?_
          have hoS : (Dt.stn f r l gs).isO A.cl (A.cl 1) = true := by
            show decide (A.cl 1 = A.cl 1) = true
            simp
          rw [hoS]
          (walk_at "zs")
          refine ⟨sa, _, sd, _, _, rfl, hsa, (T.kits.kit 1).cl, T.na_Standing_house, lk_fst, ?_⟩
          (walk_at "zs")
          refine z_hh T srh (g2.r rh1) ?_
          rw [decide_eq_true ⟨rfl, rfl⟩]
          (walk_at "zs")
          refine ⟨sa, _, sd, _, _, rfl, hsa, (T.kits.kit 1).cl, T.na_Standing_lift, (lk_nxt n1).trans lk_fst, ?_⟩
          (walk_at "zs")
          refine z_iteD (fun z => absurd rfl z) (fun _ => ?_)
          (walk_at "zs")
          refine ⟨sa, _, sd, _, _, rfl, hsa, (T.kits.kit 1).cl, T.na_Standing_lift, (lk_nxt n1).trans lk_fst, ?_⟩
          (walk_at "zs")
          refine isi_boolI ?_
          (walk_at "zs")
          refine ⟨sa, _, sd, _, _, rfl, hsa, (T.kits.kit 1).cl, T.na_Standing_groups, (lk_nxt n2).trans ((lk_nxt n3).trans lk_fst), ?_⟩
          (walk_at "zs")
          refine isi_tup T.kits srg ?_
          rw [show (Dt.tup (gs.map dG)).isT = true from rfl]
          (walk_at "zs")
          refine ⟨sa, _, sd, _, _, rfl, hsa, (T.kits.kit 1).cl, T.na_Standing_groups, (lk_nxt n2).trans ((lk_nxt n3).trans lk_fst), ?_⟩
          (walk_at "zs")
          refine z_eqG srg (g2.r rg1) ?_
          rw [decide_eq_true rfl]
          (walk_at "zs")
          refine ⟨sa, _, sd, _, _, rfl, hsa, (T.kits.kit 1).cl, T.na_Standing_groups, (lk_nxt n2).trans ((lk_nxt n3).trans lk_fst), ?_⟩
          (walk_at "zs")
          refine ⟨h, c, sgv, _, f, rfl, hd2, srg, fun H3 g3 => ?_⟩
          rw [e2]
          exact q _ ((g1.trans g2).trans g3)
theorem sc__law_draw : FnScope ["hand", "many", "number", "cell", "digit"] ["hand", "many"] (defScope s__law_draw) := ⟨rfl, rfl, rfl, by decide +kernel, rfl, by decide +kernel, by decide +kernel⟩
def sp__law_draw (K : PySem.W.Frag) (A : Ad) : Sp := fun vs H Q E =>
  ∃ (h c : Addr) (m : Int), vs = [.ref h, .int m] ∧ Hd h c H ∧ 0 < m ∧ m < 1073741824 ∧ ∀ (r : Int) (H' : Hp), 0 ≤ r → r < m → Go h c H H' → Q (.int r) H'
theorem G__law_draw (T : Txt K mg A) : FnOk P w K mg base CX0 1 A.a__law_draw A.d__law_draw ["hand", "many"] (sp__law_draw K A) := by
  refine T.F__law_draw.ok sc__law_draw (fun vs H Q E h => ?_) (fun cdv A' outer s H vs Q E hr h => ?_)
  · obtain ⟨_, _, _, rfl, _⟩ := h; rfl
  · obtain ⟨h, c, m, rfl, hd, m0, m1, k⟩ := h
    refine ⟨_, ((Evl.pss_cut (ps_if (PW.pt (pw_and (pt_cmpR op_eq (pe_ix (show IxR _ (rIxL K) from ix_list) (pv 0) pe_int (fun _ _ => rfl)) pe_int (nomark _)) (pw_and1 (pt_cmpR op_lt (pe_ix (show IxR _ (rIxL K) from ix_list) (pv 0) pe_int (fun _ _ => rfl)) (pe_callB call_len_seq (by rfl) T.n_len (by decide +kernel) (pa_cons (pe_ix (show IxR _ (rIxL K) from ix_list) (pv 0) pe_int (fun _ _ => rfl)) pa_nil)) (nomark _))))) (pss_cons (ps_set (i := 3) sc__law_draw.nd rfl (Or.inl rfl) (pe_ix (show IxR _ (rIxL K) from ix_list) (pe_ix (show IxR _ (rIxL K) from ix_list) (pv 0) pe_int (fun _ _ => rfl)) (pe_ix (show IxR _ (rIxL K) from ix_list) (pv 0) pe_int (fun _ _ => rfl)) (fun _ _ => rfl)))
          (pss_cons (ps_asg (pe_op op_add (pe_ix (show IxR _ (rIxL K) from ix_list) (pv 0) pe_int (fun _ _ => rfl)) pe_int) (pg_sub (pv 0) pe_int set_list))
          (pss_cons (ps_asg (pe_op op_modN (pe_callTy call_int1 (by rfl) T.n_int (by decide +kernel) (pa_cons (pe_op op_add (pe_op op_add (pe_op op_mul (pe_ix (show IxR _ (rIxL K) from ix_list) (pv 0) pe_int (fun _ _ => rfl)) pe_int) (pv 3)) pe_int) pa_nil)) pe_int) (pg_sub (pv 0) pe_int set_list))
          (pss_one (ps_if (pt_cmpR op_ge (pv 3) (pe_op op_pow pe_int pe_int) (nomark _)) (pss_one (ps_asg (pv 3) (pg_sub (pv 0) pe_int set_list))) pss_nil))))) pss_nil)
          (pss_cons (ps_if (pt_cmpR op_gt (pe_ix (show IxR _ (rIxL K) from ix_list) (pv 0) pe_int (fun _ _ => rfl)) pe_int (nomark _)) (pss_cons (ps_set (i := 4) sc__law_draw.nd rfl (Or.inl rfl) (pe_op op_modN (pe_callTy call_int1 (by rfl) T.n_int (by decide +kernel) (pa_cons (pe_ix (show IxR _ (rIxL K) from ix_list) (pv 0) pe_int (fun _ _ => rfl)) pa_nil)) (pv 1)))
          (pss_cons (ps_asg (pe_op op_fdivN (pe_ix (show IxR _ (rIxL K) from ix_list) (pv 0) pe_int (fun _ _ => rfl)) (pv 1)) (pg_sub (pv 0) pe_int set_list))
          (pss_one (ps_ret (pv 4))))) pss_nil)
          (pss_cons (ps_asg (pe_op op_add (pe_ix (show IxR _ (rIxL K) from ix_list) (pv 0) pe_int (fun _ _ => rfl)) pe_int) (pg_sub (pv 0) pe_int set_list))
          (pss_cons (ps_set (i := 2) sc__law_draw.nd rfl (Or.inl rfl) (pe_op op_modN (pe_callTy call_int1 (by rfl) T.n_int (by decide +kernel) (pa_cons (pe_op op_mul (pe_callTy call_int1 (by rfl) T.n_int (by decide +kernel) (pa_cons (pe_op op_add (pe_ix (show IxR _ (rIxL K) from ix_list) (pv 0) pe_int (fun _ _ => rfl)) (pe_op op_mul pe_int (pe_ix (show IxR _ (rIxL K) from ix_list) (pv 0) pe_int (fun _ _ => rfl)))) pa_nil)) pe_int) pa_nil)) pe_int))
          (pss_cons (ps_set (i := 2) sc__law_draw.nd rfl (Or.inl rfl) (pe_op op_modN (pe_callTy call_int1 (by rfl) T.n_int (by decide +kernel) (pa_cons (pe_op op_mul (pv 2) (pe_op op_add (pe_op op_fdivN (pv 2) pe_int) pe_int)) pa_nil)) pe_int))
          (pss_cons (ps_set (i := 2) sc__law_draw.nd rfl (Or.inl rfl) (pe_op op_modN (pe_callTy call_int1 (by rfl) T.n_int (by decide +kernel) (pa_cons (pe_op op_mul (pv 2) (pe_op op_add (pe_op op_fdivN (pv 2) pe_int) pe_int)) pa_nil)) pe_int))
          (pss_one (ps_ret (pe_op op_modN (pe_callTy call_int1 (by rfl) T.n_int (by decide +kernel) (pa_cons (pe_op op_fdivN (pv 2) pe_int) pa_nil)) (pv 1))))))))))), ?_⟩
    try dsimp only [cxOf, Cx.nox]
    have hd0 := hd
    obtain ⟨nc, ns, i, z, g, t, eh, ec, l63, n0, z0, g0, g1, t0⟩ := hd
    refine z_cut (fun σ H1 => (∃ u v w, σ = [some (.ref h), some (.int m), u, v, w]) ∧ Kp h H H1 ∧ ∃ (i : Nat) (z g t : Int), H1 h = some (.lst [.ref c, .int (i : Int), .int z, .int g, .int t]) ∧ 0 ≤ z ∧ 0 ≤ g ∧ g < 2147483648 ∧ 0 ≤ t) ?_ ?_
    · have kph : ∀ o, Kp h H (upd H h o) := fun o a u n e => by
        rw [upd_ne n]
        exact e
      (walk_at "zs")
      refine z_ixL (.inl (.inl eh)) rfl ?_
      (walk_at "zs")
      refine z_ite (fun e0 => ?_) (fun e0 => ?_)
      · (walk_at "zs")
        refine z_ixL (.inl (.inl eh)) rfl ?_
        (walk_at "zs")
        refine z_ixL (.inl (.inl eh)) rfl ?_
        (walk_at "zs")
        refine ⟨_, _, rfl, .inl (.inl (.inl ec)), ?_⟩
        (walk_at "zs")
        refine z_ite (fun e1 => ?_) (fun e1 => ?_)
        · rw [List.length_map] at e1
          have hi : i < ns.length := by omega
          have ai : atI (ns.map V.int) (i : Int) = some (.int ns[i]) := atI_nat (by rw [List.getElem?_map, List.getElem?_eq_getElem hi]; rfl)
          have np := n0 _ (List.getElem_mem hi)
          (walk_at "zs")
          refine z_ixL (.inl (.inl eh)) rfl ?_
          (walk_at "zs")
          refine z_ixL (.inl (.inl eh)) rfl ?_
          refine z_ixL (.inl (.inl ec)) ai ?_
          (walk_at "zs")
          refine z_ixL (.inl (.inl eh)) rfl ?_
          (walk_at "zs")
          refine z_setL eh rfl ?_
          (walk_at "zs")
          refine z_ixL (.inl (.inl upd_same)) rfl ?_
          (walk_at "zs")
          refine z_I (.inl ⟨by omega, by omega⟩) ?_
          (walk_at "zs")
          refine .inl ⟨_, rfl, ?_⟩
          (walk_at "zs")
          refine z_I (by decide) ?_
          (walk_at "zs")
          refine z_setL upd_same rfl ?_
          rw [upd_upd]
          have f0 := Int.emod_nonneg (g * 69621 + ns[i] + 11) (show (2147483629 : Int) ≠ 0 by decide)
          have f1 := Int.emod_lt_of_pos (g * 69621 + ns[i] + 11) (show (0 : Int) < 2147483629 by decide)
          have fe : (g * 69621 + ns[i] + 11).fmod 2147483629 = (g * 69621 + ns[i] + 11) % 2147483629 := Int.fmod_eq_emod_of_nonneg _ (by decide)
          rw [fe]
          (walk_at "zs")
          refine z_I ⟨by decide, by decide, by decide⟩ ?_
          (walk_at "zs")
          refine z_ite (fun e2 => ?_) (fun e2 => ?_)
          · (walk_at "zs")
            refine z_setL upd_same rfl ?_
            rw [upd_upd]
            exact ⟨⟨_, _, _, rfl⟩, kph _, i + 1, ns[i], _, t, upd_same, np, f0, by omega, t0⟩
          · (walk_at "zs")
            exact ⟨⟨_, _, _, rfl⟩, kph _, i + 1, z, _, t, upd_same, z0, f0, by omega, t0⟩
        · (walk_at "zs")
          exact ⟨⟨_, _, _, rfl⟩, Kp.refl H, i, z, g, t, eh, z0, g0, g1, t0⟩
      · (walk_at "zs")
        exact ⟨⟨_, _, _, rfl⟩, Kp.refl H, i, z, g, t, eh, z0, g0, g1, t0⟩
    · rintro σ H1 ⟨⟨u, v, w, rfl⟩, kp, i', z', g', t', eh', z0', g0', g1', t0'⟩
      have fin : ∀ o, (∃ (i : Nat) (z g t : Int), o = HO.lst [.ref c, .int (i : Int), .int z, .int g, .int t] ∧ 0 ≤ z ∧ 0 ≤ g ∧ g < 2147483648 ∧ 0 ≤ t) → Go h c H (upd H1 h o) := fun o ⟨i, z, g, t, e, b0, b1, b2, b3⟩ => by
        refine ⟨fun a u n q => by rw [upd_ne n]; exact kp a u n q, fun _ => ⟨nc, ns, i, z, g, t, by rw [upd_same, e], by rw [upd_ne nc]; exact kp c _ nc ec, l63, n0, b0, b1, b2, b3⟩⟩
      (walk_at "zs")
      refine z_ixL (.inl (.inl eh')) rfl ?_
      (walk_at "zs")
      refine z_ite (fun e0 => ?_) (fun e0 => ?_)
      · (walk_at "zs")
        refine z_ixL (.inl (.inl eh')) rfl ?_
        refine .inl ⟨_, rfl, ?_⟩
        (walk_at "zs")
        refine z_I (by omega) ?_
        (walk_at "zs")
        refine z_ixL (.inl (.inl eh')) rfl ?_
        (walk_at "zs")
        refine z_I ⟨by omega, by omega⟩ ?_
        (walk_at "zs")
        refine z_setL eh' rfl ?_
        have e1 : z'.fmod m = z' % m := Int.fmod_eq_emod_of_nonneg _ (by omega)
        have e2 : z'.fdiv m = z' / m := Int.fdiv_eq_ediv_of_nonneg _ (by omega)
        rw [e1, e2]
        (walk_at "zs")
        exact k _ _ (Int.emod_nonneg _ (by omega)) (Int.emod_lt_of_pos _ m0) (fin _ ⟨i', z' / m, g', t', rfl, Int.ediv_nonneg z0' (by omega), g0', g1', t0'⟩)
      · (walk_at "zs")
        refine z_ixL (.inl (.inl eh')) rfl ?_
        (walk_at "zs")
        refine z_setL eh' rfl ?_
        (walk_at "zs")
        refine z_ixL (.inl (.inl upd_same)) rfl ?_
        (walk_at "zs")
        refine z_ixL (.inl (.inl upd_same)) rfl ?_
        refine z_I (.inl ⟨by decide, by decide⟩) ?_
        (walk_at "zs")
        refine .inl ⟨_, rfl, ?_⟩
        (walk_at "zs")
        refine z_I (.inr ⟨by decide, by decide⟩) ?_
        (walk_at "zs")
        refine .inl ⟨_, rfl, ?_⟩
        (walk_at "zs")
        refine z_I (by decide) ?_
        rw [Int.fmod_eq_emod_of_nonneg _ (show (0 : Int) ≤ 2147483647 by decide)]
        generalize ha : ((g' + 7919 * (t' + 1)) * 48271) % 2147483647 = a
        have a0 : 0 ≤ a := by rw [← ha]; exact Int.emod_nonneg _ (by decide)
        have a1 : a < 2147483647 := by rw [← ha]; exact Int.emod_lt_of_pos _ (by decide)
        (walk_at "zs")
        refine z_I ⟨by decide, by decide⟩ ?_
        (walk_at "zs")
        refine z_I (.inl ⟨by omega, by omega⟩) ?_
        (walk_at "zs")
        refine .inl ⟨_, rfl, ?_⟩
        (walk_at "zs")
        refine z_I (by decide) ?_
        rw [Int.fmod_eq_emod_of_nonneg _ (show (0 : Int) ≤ 2147483647 by decide)]
        generalize hb : (a * (a.fdiv 1009 + 69621)) % 2147483647 = b
        have b0 : 0 ≤ b := by rw [← hb]; exact Int.emod_nonneg _ (by decide)
        have b1 : b < 2147483647 := by rw [← hb]; exact Int.emod_lt_of_pos _ (by decide)
        (walk_at "zs")
        refine z_I ⟨by decide, by decide⟩ ?_
        (walk_at "zs")
        refine z_I (.inl ⟨by omega, by omega⟩) ?_
        (walk_at "zs")
        refine .inl ⟨_, rfl, ?_⟩
        (walk_at "zs")
        refine z_I (by decide) ?_
        (walk_at "zs")
        refine z_I ⟨by decide, by decide⟩ ?_
        (walk_at "zs")
        refine .inl ⟨_, rfl, ?_⟩
        (walk_at "zs")
        refine z_I (by omega) ?_
        rw [Int.fmod_eq_emod_of_nonneg _ (show (0 : Int) ≤ m by omega)]
        exact k _ _ (Int.emod_nonneg _ (by omega)) (Int.emod_lt_of_pos _ m0) (fin _ ⟨i', z', g', t' + 1, rfl, z0', g0', g1', by omega⟩)
theorem sc__law_groups : FnScope ["hand", "floors", "many", "most", "known", "turn", "pair"] ["hand", "floors", "many", "most"] (defScope s__law_groups) := ⟨rfl, rfl, rfl, by decide +kernel, rfl, by decide +kernel, by decide +kernel⟩
def sp__law_groups (K : PySem.W.Frag) (A : Ad) : Sp := fun vs H Q E =>
  ∃ (h c : Addr) (f m n : Int), vs = [.ref h, .int f, .int m, .int n] ∧ Hd h c H ∧ 1 ≤ f ∧ f ≤ 40 ∧ 0 ≤ m ∧ m ≤ 399 ∧ 1 ≤ n ∧ n ≤ 1000000 ∧ ∀ p gs H', Go h c H H' → Gs f gs → R A.cl h H' (.ref p) (.tup (gs.map dG)) → Q (.ref p) H'
theorem G__law_groups (T : Txt K mg A) : FnOk P w K mg base CX0 2 A.a__law_groups A.d__law_groups ["hand", "floors", "many", "most"] (sp__law_groups K A) := by
  refine T.F__law_groups.ok sc__law_groups (fun vs H Q E h => ?_) (fun cdv A' outer s H vs Q E hr h => ?_)
  · obtain ⟨_, _, _, _, _, rfl, _⟩ := h; rfl
  · obtain ⟨h, c, f, m, n, rfl, hd, f1, f2, m0, m1, n1, n2, k⟩ := h
    refine ⟨_, ((pss_cons (ps_set (i := 4) sc__law_groups.nd rfl (Or.inr rfl) pe_dnewT)
          (pss_cons (ps_for PassesOwn.never rfl (pi_range1 (by rfl) T.n_range (pa_cons (pe_call (G__law_draw T) (hr.mono (by decide)) rfl T.g__law_draw T.F__law_draw.kp T.b__law_draw .nil pass0 (pa_cons (pv 0) (pa_cons (pe_op op_add (pv 2) pe_int) pa_nil))) pa_nil)) (pg_name (i := 5) sc__law_groups.nd rfl (Or.inl rfl))
          (pss_cons (ps_set (i := 6) sc__law_groups.nd rfl (Or.inl rfl) (pe_tup (pa_cons (pe_call (G__law_draw T) (hr.mono (by decide)) rfl T.g__law_draw T.F__law_draw.kp T.b__law_draw .nil pass0 (pa_cons (pv 0) (pa_cons (pv 1) pa_nil))) (pa_cons (pe_call (G__law_draw T) (hr.mono (by decide)) rfl T.g__law_draw T.F__law_draw.kp T.b__law_draw .nil pass0 (pa_cons (pv 0) (pa_cons (pv 1) pa_nil))) pa_nil))))
          (pss_one (ps_dput (hu_of hr) (pv 4) (pv 6) (pe_op op_add pe_int (pe_call (G__law_draw T) (hr.mono (by decide)) rfl T.g__law_draw T.F__law_draw.kp T.b__law_draw .nil pass0 (pa_cons (pv 0) (pa_cons (pv 3) pa_nil)))) rfl))))
          (pss_one (ps_ret (pe_callTy call_tuple_of (by rfl) T.n_tuple (by decide +kernel) (pa_cons (pe_callB call_sortI (by rfl) T.n_sorted (by decide +kernel) (pa_cons (pe_lock (pe_lc (own := [("pair", 6)]) (g := gName 6) rfl sc__law_groups.nd (pi_keys (pv 4)) (blkOk_by (own := [("pair", 6)]) (N := ["hand", "floors", "many", "most", "known", "turn", "pair"]) (sc := defScope s__law_groups) (by decide +kernel)) (fun _ _ _ _ _ => (pg_name (i := 6) sc__law_groups.nd rfl (Or.inl rfl))) (fun _ _ _ _ _ => pts_nil) (fun _ _ _ _ _ => (pe_op (show OpR _ _ (rCatT K) from op_catT) (pv 6) (pe_tup (pa_cons (pe_dget (hu_of hr) (pv 4) (pv 6) (fun _ _ => rfl)) pa_nil)))))) pa_nil)) pa_nil))))))), ?_⟩
    try dsimp only [cxOf, Cx.nox]
    (walk_at "zs")
    intro d nd
    have dh : d ≠ h := hd.ne nd
    have gd : Go h c H (upd H d (.dT [])) := Go.new hd nd
    (walk_at "zs")
    refine ⟨h, c, _, rfl, gd.2 hd, by omega, by omega, fun r H1 r0 r1 g1 => ?_⟩
    (walk_at "zs")
    refine ⟨_, rfl, by omega, by omega, for_range (lo := 0) (n := r.toNat) (fun i σ HH => (∃ u v, σ = [some (.ref h), some (.int f), some (.int m), some (.int n), some (.ref d), u, v]) ∧ Go h c H HH ∧ ∃ l : List G3, HH d = some (.dT (enc l)) ∧ (l.map prG).Nodup ∧ (∀ g ∈ l, okG f g) ∧ l.length ≤ i)
      ⟨⟨_, _, rfl⟩, gd.trans g1, [], g1.1 _ _ dh upd_same, .nil, by simp, by simp⟩ ?_ ?_⟩
    · rintro i σ H2 il ⟨⟨u, v, rfl⟩, g2, l, e2, nd2, el2, ln2⟩
      have hd2 := g2.2 hd
      (walk_at "zs")
      refine ⟨h, c, _, rfl, hd2, by omega, by omega, fun a H3 a0 a1 g3 => ?_⟩
      (walk_at "zs")
      refine ⟨h, c, _, rfl, g3.2 hd2, by omega, by omega, fun b H4 b0 b1 g4 => ?_⟩
      have hd4 := g4.2 (g3.2 hd2)
      (walk_at "zs")
      refine ⟨sz1000 (Nat.le_of_ble_eq_true rfl), fun p np => ?_⟩
      have g5 : Go h c H4 (upd H4 p (.tup [.int a, .int b])) := Go.new hd4 np
      (walk_at "zs")
      refine ⟨h, c, _, rfl, g5.2 hd4, by omega, by omega, fun w H6 w0 w1 g6 => ?_⟩
      (walk_at "zs")
      have e6 := g6.1 _ _ dh (g5.1 _ _ dh (g4.1 _ _ dh (g3.1 _ _ dh e2)))
      have p6 := g6.1 _ _ (hd4.ne np) upd_same
      refine ⟨d, _, rfl, DPut.t (k := [.inl a, .inl b]) e6 p6 (by unfold enc; rw [List.length_map, sizeLine_eq]; omega), ?_⟩
      rw [putK_enc]
      (walk_at "zs")
      refine ⟨⟨_, _, rfl⟩, (((((g2.trans g3).trans g4).trans g5).trans g6).mut hd nd), putG l a b (1 + w), upd_same, putG_pr _ _ _ _ nd2, putG_el el2 ⟨a0, a1, b0, b1, by show 1 ≤ 1 + w; omega, by show 1 + w ≤ _; omega⟩, ?_⟩
      have := putG_len l a b (1 + w)
      omega
    · rintro σ H2 ⟨⟨u, v, rfl⟩, g2, l, e2, nd2, el2, ln2⟩
      (walk_at "zs")
      refine z_lockE e2 trivial fun od => ?_
      (walk_at "zs")
      refine ⟨d, od, rfl, .inr ⟨enc l, upd_same, fun D hD => lc_it walk_keysT (fun i H3 => Same (upd H2 d (.frz od (.dT (enc l)))) H3 ∧ ∃ acc, H3 D = some (.lst acc) ∧ P3 H3 acc (l.take i)) ⟨sameU hD, [], upd_same, rfl⟩ (fun i H3 _ p => p.1 _ _ upd_same) ?_ ?_⟩⟩
      · rintro i x H3 H' il ⟨sm, acc, eD, p3⟩ ⟨rfl, kk, vv, q, eq, rfl, hq⟩
        obtain ⟨g, hg, ek, ev⟩ : ∃ g, l[i]? = some g ∧ kG g = kk ∧ V.int g.2.2 = vv := by
          unfold enc at eq
          rw [List.getElem?_map] at eq
          cases hl : l[i]? with
          | none => rw [hl] at eq; cases eq
          | some g =>
            rw [hl] at eq
            have z := Option.some.inj eq
            exact ⟨g, rfl, congrArg Prod.fst z, congrArg Prod.snd z⟩
        subst ek ev
        have mg := List.mem_of_getElem? hg
        refine z_gname ⟨rfl, ?_⟩
        (walk_at "zs")
        refine ⟨d, .int g.2.2, rfl, .inr ⟨enc l, kG g, q, .inr ⟨od, sm _ _ upd_same⟩, rfl, hq, (valV_enc nd2 mg).symm⟩, ?_⟩
        (walk_at "zs")
        refine ⟨sz1000 (Nat.le_of_ble_eq_true rfl), fun p np => ?_⟩
        refine ⟨q, p, [.int g.1, .int g.2.1], [.int g.2.2], rfl, rfl, SqT.of (by rw [upd_ne (ne_of_none hq np)]; exact hq), SqT.of upd_same, List.cons_ne_nil _ _, sz1000 (Nat.le_of_ble_eq_true rfl), fun z => absurd z (List.cons_ne_nil _ _), fun _ t nt => ?_⟩
        have sp : Same H' (upd H' p (.tup [.int g.2.2])) := sameU np
        have st := sp.trans (sameU (o := .tup ([.int g.1, .int g.2.1] ++ [.int g.2.2])) nt)
        have eD' := st _ _ eD
        have dD : ∀ b o, upd H2 d (.frz od (.dT (enc l))) b = some o → b ≠ D := fun b o e => ne_of_none e hD
        have tD : t ≠ D := fun z => by
          rw [z] at nt
          rw [sp _ _ eD] at nt
          cases nt
        refine ⟨acc, eD', ?_, fun b o e => ?_, acc ++ [.ref t], upd_same, ?_⟩
        · rw [p3.len, List.length_take]
          have := List.length_take_le i l
          rw [sizeLine_eq]
          omega
        · rw [upd_ne (dD b o e)]
          exact st _ _ (sm _ _ e)
        · rw [take_one hg]
          exact P3.snoc (p3.kt ((KT.of st).trans (KT.upd eD' fun _ z => by cases z))) (by rw [upd_ne tD, upd_same]; rfl)
      · rintro H3 ⟨sm, acc, eD, p3⟩
        rw [show l.take (enc l).length = l from by rw [show (enc l).length = l.length from List.length_map ..]; exact List.take_length] at p3
        refine ⟨sm _ _ upd_same, ?_⟩
        have Dd : D ≠ d := fun z => by
          rw [z, upd_same] at hD
          cases hD
        have eF : (upd H3 d (.dT (enc l))) D = some (.lst acc) := by rw [upd_ne Dd]; exact eD
        have pF : P3 (upd H3 d (.dT (enc l))) acc l := p3.kt (KT.upd (sm _ _ upd_same) fun _ z => by cases z)
        have gF : Go h c H (upd H3 d (.dT (enc l))) := ((g2.mut hd nd).trans (Go.same sm)).mut hd nd
        have hdF := gF.2 hd
        (walk_at "zs")
        refine z_sortG eF pF nd2 fun p ys gs' np pm asc p3' => ?_
        have gp := Go.new (o := .lst ys) hdF np
        have hdp := gp.2 hdF
        (walk_at "zs")
        refine ⟨p, ys, rfl, .inl ⟨SqL.of upd_same, fun q nq => ?_⟩⟩
        (walk_at "zs")
        refine k q gs' _ ((gF.trans gp).trans (Go.new hdp nq)) ⟨?_, asc, fun g hg => el2 g (pm.mem_iff.mp hg)⟩ (.tup (hdp.ne nq) upd_same (P3.rs ((Go.new hdp nq).2 hdp) (p3'.kt (KT.of ((sameU np).trans (sameU nq))))))
        rw [pm.length_eq]
        omega
theorem sc__law_great : FnScope ["hand", "most", "found", "turn"] ["hand", "most"] (defScope s__law_great) := ⟨rfl, rfl, rfl, by decide +kernel, rfl, by decide +kernel, by decide +kernel⟩
def sp__law_great (K : PySem.W.Frag) (A : Ad) : Sp := fun vs H Q E =>
  ∃ (h c : Addr) (m : Int), vs = [.ref h, .int m] ∧ Hd h c H ∧ 0 < m ∧ ∀ (r : Int) (H' : Hp), 1 ≤ r → r ≤ m → Go h c H H' → Q (.int r) H'
theorem G__law_great (T : Txt K mg A) : FnOk P w K mg base CX0 2 A.a__law_great A.d__law_great ["hand", "most"] (sp__law_great K A) := by
  refine T.F__law_great.ok sc__law_great (fun vs H Q E h => ?_) (fun cdv A' outer s H vs Q E hr h => ?_)
  · obtain ⟨_, _, _, rfl, _⟩ := h; rfl
  · obtain ⟨h, c, m, rfl, hd, m0, k⟩ := h
    refine ⟨_, ((pss_cons (ps_set (i := 2) sc__law_great.nd rfl (Or.inl rfl) pe_int)
          (pss_cons (ps_for PassesOwn.never rfl (pi_range1 (by rfl) T.n_range (pa_cons pe_int pa_nil)) (pg_name (i := 3) sc__law_great.nd rfl (Or.inl rfl))
          (pss_one (ps_set (i := 2) sc__law_great.nd rfl (Or.inl rfl) (pe_op op_add (pe_op op_mul (pv 2) (pe_op op_pow pe_int pe_int)) (pe_call (G__law_draw T) (hr.mono (by decide)) rfl T.g__law_draw T.F__law_draw.kp T.b__law_draw .nil pass0 (pa_cons (pv 0) (pa_cons (pe_op op_pow pe_int pe_int) pa_nil)))))))
          (pss_one (ps_ret (pe_op op_add pe_int (pe_op op_modN (pe_callTy call_int1 (by rfl) T.n_int (by decide +kernel) (pa_cons (pv 2) pa_nil)) (pv 1)))))))), ?_⟩
    try dsimp only [cxOf, Cx.nox]
    (walk_at "zs")
    refine ⟨_, rfl, by decide, by decide, for_range (lo := 0) (n := 4) (fun _ σ H1 => ∃ (f : Int) (u : Option V), σ = [some (.ref h), some (.int m), some (.int f), u] ∧ Go h c H H1 ∧ 0 ≤ f) ⟨0, none, rfl, Go.refl H, Int.le_refl 0⟩ ?_ ?_⟩
    · rintro i σ H1 _ ⟨f, u, rfl, g, f0⟩
      (walk_at "zs")
      refine z_pow (n := 100000000) ⟨by decide, by decide, by decide⟩ rfl ?_
      refine z_I (.inr ⟨by decide, by decide⟩) ?_
      (walk_at "zs")
      refine z_pow (n := 100000000) ⟨by decide, by decide, by decide⟩ rfl ?_
      (walk_at "zs")
      refine ⟨h, c, _, rfl, g.2 hd, by decide, by decide, fun r H2 r0 r1 g2 => ?_⟩
      (walk_at "zs")
      exact ⟨_, _, rfl, g.trans g2, by omega⟩
    · rintro σ H1 ⟨f, u, rfl, g, f0⟩
      (walk_at "zs")
      refine .inl ⟨_, rfl, ?_⟩
      (walk_at "zs")
      refine z_I (by omega) ?_
      (walk_at "zs")
      rw [Int.fmod_eq_emod_of_nonneg _ (show (0 : Int) ≤ m by omega)]
      have a0 := Int.emod_nonneg f (show m ≠ 0 by omega)
      have a1 := Int.emod_lt_of_pos f m0
      exact k _ _ (by omega) (by omega) g
theorem sc__law_great_groups : FnScope ["hand", "floors", "start", "stride", "most", "base", "known", "k", "at", "pair"] ["hand", "floors"] (defScope s__law_great_groups) := ⟨rfl, rfl, rfl, by decide +kernel, rfl, by decide +kernel, by decide +kernel⟩
def sp__law_great_groups (K : PySem.W.Frag) (A : Ad) : Sp := fun vs H Q E =>
  ∃ (h c : Addr) (f : Int), vs = [.ref h, .int f] ∧ Hd h c H ∧ 1 ≤ f ∧ f ≤ 40 ∧ ∀ p gs H', Go h c H H' → Gs f gs → R A.cl h H' (.ref p) (.tup (gs.map dG)) → Q (.ref p) H'
theorem G__law_great_groups (T : Txt K mg A) : FnOk P w K mg base CX0 3 A.a__law_great_groups A.d__law_great_groups ["hand", "floors"] (sp__law_great_groups K A) := by
  refine T.F__law_great_groups.ok sc__law_great_groups (fun vs H Q E h => ?_) (fun cdv A' outer s H vs Q E hr h => ?_)
  · obtain ⟨_, _, _, rfl, _⟩ := h; rfl
  · obtain ⟨h, c, f, rfl, hd, f1, f2, k⟩ := h
    refine ⟨_, ((pss_cons (ps_par (i := 2) (j := 3) (by rfl) sc__law_great_groups.nd rfl rfl (by decide) rfl rfl (pa_cons (pe_call (G__law_draw T) (hr.mono (by decide)) rfl T.g__law_draw T.F__law_draw.kp T.b__law_draw .nil pass0 (pa_cons (pv 0) (pa_cons (pe_op op_mul (pv 1) (pv 1)) pa_nil))) (pa_cons (pe_ix (show IxR _ (rIxL K) from ix_list) (pe_lst (pa_cons pe_int (pa_cons pe_int (pa_cons pe_int (pa_cons pe_int (pa_cons pe_int (pa_cons pe_int pa_nil))))))) (pe_call (G__law_draw T) (hr.mono (by decide)) rfl T.g__law_draw T.F__law_draw.kp T.b__law_draw .nil pass0 (pa_cons (pv 0) (pa_cons pe_int pa_nil))) (fun _ _ => rfl)) pa_nil)) (by rfl))
          (pss_cons (ps_set (i := 4) sc__law_great_groups.nd rfl (Or.inl rfl) (pe_ix (show IxR _ (rIxL K) from ix_list) (pe_lst (pa_cons pe_int (pa_cons (pe_op op_pow pe_int pe_int) (pa_cons (pe_op op_pow pe_int pe_int) pa_nil)))) (pe_call (G__law_draw T) (hr.mono (by decide)) rfl T.g__law_draw T.F__law_draw.kp T.b__law_draw .nil pass0 (pa_cons (pv 0) (pa_cons pe_int pa_nil))) (fun _ _ => rfl)))
          (pss_cons (ps_set (i := 5) sc__law_great_groups.nd rfl (Or.inl rfl) (pe_call (G__law_great T) (hr.mono (by decide)) rfl T.g__law_great T.F__law_great.kp T.b__law_great .nil pass0 (pa_cons (pv 0) (pa_cons (pv 4) pa_nil))))
          (pss_cons (ps_set (i := 6) sc__law_great_groups.nd rfl (Or.inr rfl) pe_dnewT)
          (pss_cons (ps_for PassesOwn.never rfl (pi_range1 (by rfl) T.n_range (pa_cons (pe_ix (show IxR _ (rIxL K) from ix_list) (pe_lst (pa_cons (pe_call (G__law_draw T) (hr.mono (by decide)) rfl T.g__law_draw T.F__law_draw.kp T.b__law_draw .nil pass0 (pa_cons (pv 0) (pa_cons pe_int pa_nil))) (pa_cons (pe_call (G__law_draw T) (hr.mono (by decide)) rfl T.g__law_draw T.F__law_draw.kp T.b__law_draw .nil pass0 (pa_cons (pv 0) (pa_cons pe_int pa_nil))) (pa_cons pe_int pa_nil)))) (pe_call (G__law_draw T) (hr.mono (by decide)) rfl T.g__law_draw T.F__law_draw.kp T.b__law_draw .nil pass0 (pa_cons (pv 0) (pa_cons pe_int pa_nil))) (fun _ _ => rfl)) pa_nil)) (pg_name (i := 7) sc__law_great_groups.nd rfl (Or.inl rfl))
          (pss_cons (ps_set (i := 8) sc__law_great_groups.nd rfl (Or.inl rfl) (pe_op op_modN (pe_callTy call_int1 (by rfl) T.n_int (by decide +kernel) (pa_cons (pe_op op_add (pv 2) (pe_op op_mul (pv 7) (pv 3))) pa_nil)) (pe_op op_mul (pv 1) (pv 1))))
          (pss_one (ps_dput (hu_of hr) (pv 6) (pe_tup (pa_cons (pe_op op_fdivN (pv 8) (pv 1)) (pa_cons (pe_op op_modN (pe_callTy call_int1 (by rfl) T.n_int (by decide +kernel) (pa_cons (pv 8) pa_nil)) (pv 1)) pa_nil))) (pe_op op_add pe_int (pe_op op_modN (pe_callTy call_int1 (by rfl) T.n_int (by decide +kernel) (pa_cons (pe_op op_mul (pe_op op_add (pv 5) (pv 7)) (pe_op op_add (pe_op op_mul pe_int (pv 7)) pe_int)) pa_nil)) (pv 4))) rfl))))
          (pss_one (ps_ret (pe_callTy call_tuple_of (by rfl) T.n_tuple (by decide +kernel) (pa_cons (pe_callB call_sortI (by rfl) T.n_sorted (by decide +kernel) (pa_cons (pe_lock (pe_lc (own := [("pair", 9)]) (g := gName 9) rfl sc__law_great_groups.nd (pi_keys (pv 6)) (blkOk_by (own := [("pair", 9)]) (N := ["hand", "floors", "start", "stride", "most", "base", "known", "k", "at", "pair"]) (sc := defScope s__law_great_groups) (by decide +kernel)) (fun _ _ _ _ _ => (pg_name (i := 9) sc__law_great_groups.nd rfl (Or.inl rfl))) (fun _ _ _ _ _ => pts_nil) (fun _ _ _ _ _ => (pe_op (show OpR _ _ (rCatT K) from op_catT) (pv 9) (pe_tup (pa_cons (pe_dget (hu_of hr) (pv 6) (pv 9) (fun _ _ => rfl)) pa_nil)))))) pa_nil)) pa_nil)))))))))), ?_⟩
    try dsimp only [cxOf, Cx.nox]
    have ff0 : 0 < f * f := Int.mul_pos (by omega) (by omega)
    have ff1 : f * f ≤ 40 * 40 := Int.mul_le_mul f2 f2 (by omega) (by decide)
    (walk_at "zs")
    refine z_I (.inl ⟨by omega, by omega⟩) ?_
    (walk_at "zs")
    refine ⟨h, c, _, rfl, hd, ff0, by omega, fun st H1 st0 st1 g1 => ?_⟩
    have hd1 := g1.2 hd
    (walk_at "zs")
    refine z_newS (fun p1 H2 s2 n2 e2 => ?_)
    have g2 : Go h c H1 H2 := Go.same s2
    have hd2 := g2.2 hd1
    (walk_at "zs")
    refine ⟨h, c, _, rfl, hd2, by decide, by decide, fun r3 H3 r30 r31 g3 => ?_⟩
    have hd3 := g3.2 hd2
    refine z_ixA (g3.1 _ _ (hd1.ne n2) e2) r30 r31 fun v3 hv3 => ?_
    obtain ⟨sr, rfl⟩ : ∃ s, v3 = .int s := by
      simp only [List.mem_cons, List.not_mem_nil, or_false] at hv3
      rcases hv3 with rfl | rfl | rfl | rfl | rfl | rfl <;> exact ⟨_, rfl⟩
    (walk_at "zs")
    refine z_pow (n := 1000000) ⟨by decide, by decide, by decide⟩ rfl ?_
    (walk_at "zs")
    refine z_pow (n := 100000000000000000000000000000) ⟨by decide, by decide, by decide⟩ rfl ?_
    (walk_at "zs")
    refine z_newS (fun p4 H4 s4 n4 e4 => ?_)
    have g4 : Go h c H3 H4 := Go.same s4
    have hd4 := g4.2 hd3
    (walk_at "zs")
    refine ⟨h, c, _, rfl, hd4, by decide, by decide, fun r5 H5 r50 r51 g5 => ?_⟩
    have hd5 := g5.2 hd4
    refine z_ixA (g5.1 _ _ (hd3.ne n4) e4) r50 r51 fun v5 hv5 => ?_
    obtain ⟨mo, rfl, mo1, mo2⟩ : ∃ s, v5 = .int s ∧ 1 ≤ s ∧ s ≤ 100000000000000000000000000000 := by
      simp only [List.mem_cons, List.not_mem_nil, or_false] at hv5
      rcases hv5 with rfl | rfl | rfl <;> exact ⟨_, rfl, by decide, by decide⟩
    (walk_at "zs")
    refine ⟨h, c, _, rfl, hd5, by omega, fun ba H6 ba1 ba2 g6 => ?_⟩
    have hd6 := g6.2 hd5
    (walk_at "zs")
    intro d nd
    have dh : d ≠ h := hd6.ne nd
    have gd : Go h c H6 (upd H6 d (.dT [])) := Go.new hd6 nd
    have hd7 := gd.2 hd6
    (walk_at "zs")
    refine ⟨h, c, _, rfl, hd7, by decide, by decide, fun r8 H8 r80 r81 g8 => ?_⟩
    have hd8 := g8.2 hd7
    (walk_at "zs")
    refine ⟨h, c, _, rfl, hd8, by decide, by decide, fun r9 H9 r90 r91 g9 => ?_⟩
    have hd9 := g9.2 hd8
    (walk_at "zs")
    refine z_newS (fun p10 H10 s10 n10 e10 => ?_)
    have g10 : Go h c H9 H10 := Go.same s10
    have hd10 := g10.2 hd9
    (walk_at "zs")
    refine ⟨h, c, _, rfl, hd10, by decide, by decide, fun r11 H11 r110 r111 g11 => ?_⟩
    have hd11 := g11.2 hd10
    refine z_ixA (g11.1 _ _ (hd9.ne n10) e10) r110 r111 fun v11 hv11 => ?_
    obtain ⟨mk, rfl, mk0, mk1⟩ : ∃ s, v11 = .int s ∧ 0 ≤ s ∧ s ≤ 400 := by
      simp only [List.mem_cons, List.not_mem_nil, or_false] at hv11
      rcases hv11 with rfl | rfl | rfl <;> exact ⟨_, rfl, by omega, by omega⟩
    (walk_at "zs")
    have e11 : H11 d = some (.dT (enc [])) := g11.1 _ _ dh (g10.1 _ _ dh (g9.1 _ _ dh (g8.1 _ _ dh upd_same)))
    have g711 : Go h c H6 H11 := (((gd.trans g8).trans g9).trans g10).trans g11
    have g06 : Go h c H H6 := ((((g1.trans g2).trans g3).trans g4).trans g5).trans g6
    refine ⟨_, rfl, by omega, by omega, for_range (lo := 0) (n := mk.toNat) (fun i σ HH => (∃ u w v, σ = [some (.ref h), some (.int f), some (.int st), some (.int sr), some (.int mo), some (.int ba), some (.ref d), u, w, v]) ∧ Go h c H6 HH ∧ ∃ l : List G3, HH d = some (.dT (enc l)) ∧ (l.map prG).Nodup ∧ (∀ g ∈ l, okG f g) ∧ l.length ≤ i)
      ⟨⟨_, _, _, rfl⟩, g711, [], e11, .nil, by simp, by simp⟩ ?_ ?_⟩
    · rintro i σ H2 il ⟨⟨u, w8, v, rfl⟩, g2, l, e2, nd2, el2, ln2⟩
      have hd2 := g2.2 hd6
      (walk_at "zs")
      refine z_I (.inl ⟨by omega, by omega⟩) ?_
      (walk_at "zs")
      refine .inl ⟨_, rfl, ?_⟩
      (walk_at "zs")
      refine z_I (.inl ⟨by omega, by omega⟩) ?_
      refine z_I (by omega) ?_
      rw [Int.fmod_eq_emod_of_nonneg _ (show (0 : Int) ≤ f * f by omega)]
      have at0 := Int.emod_nonneg (st + (0 + (i : Int)) * sr) (show f * f ≠ 0 by omega)
      have at1 := Int.emod_lt_of_pos (st + (0 + (i : Int)) * sr) ff0
      generalize (st + (0 + (i : Int)) * sr) % (f * f) = t at at0 at1 ⊢
      (walk_at "zs")
      refine z_I (.inl ⟨by decide, by decide⟩) ?_
      (walk_at "zs")
      refine z_I (.inr ⟨by omega, by omega⟩) ?_
      (walk_at "zs")
      refine .inl ⟨_, rfl, ?_⟩
      (walk_at "zs")
      refine z_I (by omega) ?_
      rw [Int.fmod_eq_emod_of_nonneg _ (show (0 : Int) ≤ mo by omega)]
      have w0 := Int.emod_nonneg ((ba + (0 + (i : Int))) * (48271 * (0 + (i : Int)) + 1)) (show mo ≠ 0 by omega)
      have w1 := Int.emod_lt_of_pos ((ba + (0 + (i : Int))) * (48271 * (0 + (i : Int)) + 1)) (show 0 < mo by omega)
      generalize ((ba + (0 + (i : Int))) * (48271 * (0 + (i : Int)) + 1)) % mo = w at w0 w1 ⊢
      (walk_at "zs")
      refine z_I ⟨by omega, by omega⟩ ?_
      rw [Int.fdiv_eq_ediv_of_nonneg _ (show (0 : Int) ≤ f by omega)]
      (walk_at "zs")
      refine .inl ⟨_, rfl, ?_⟩
      (walk_at "zs")
      refine z_I (by omega) ?_
      rw [Int.fmod_eq_emod_of_nonneg _ (show (0 : Int) ≤ f by omega)]
      have a0 : 0 ≤ t / f := Int.ediv_nonneg at0 (by omega)
      have a1 : t / f < f := Int.ediv_lt_of_lt_mul (by omega) at1
      have b0 := Int.emod_nonneg t (show f ≠ 0 by omega)
      have b1 := Int.emod_lt_of_pos t (show 0 < f by omega)
      generalize t / f = a at a0 a1 ⊢
      generalize t % f = b at b0 b1 ⊢
      (walk_at "zs")
      refine ⟨sz1000 (Nat.le_of_ble_eq_true rfl), fun p np => ?_⟩
      have g5 : Go h c H2 (upd H2 p (.tup [.int a, .int b])) := Go.new hd2 np
      have e6 := g5.1 _ _ dh e2
      refine ⟨d, _, rfl, DPut.t (k := [.inl a, .inl b]) e6 upd_same (by unfold enc; rw [List.length_map, sizeLine_eq]; omega), ?_⟩
      rw [putK_enc]
      (walk_at "zs")
      refine ⟨⟨_, _, _, rfl⟩, ((g2.trans g5).mut hd6 nd), putG l a b (1 + w), upd_same, putG_pr _ _ _ _ nd2, putG_el el2 ⟨a0, a1, b0, b1, by show 1 ≤ 1 + w; omega, by show 1 + w ≤ _; omega⟩, ?_⟩
      have := putG_len l a b (1 + w)
      omega
    · rintro σ H2 ⟨⟨u, w8, v, rfl⟩, g2, l, e2, nd2, el2, ln2⟩
      (walk_at "zs")
      refine z_lockE e2 trivial fun od => ?_
      (walk_at "zs")
      refine ⟨d, od, rfl, .inr ⟨enc l, upd_same, fun D hD => lc_it walk_keysT (fun i H3 => Same (upd H2 d (.frz od (.dT (enc l)))) H3 ∧ ∃ acc, H3 D = some (.lst acc) ∧ P3 H3 acc (l.take i)) ⟨sameU hD, [], upd_same, rfl⟩ (fun i H3 _ p => p.1 _ _ upd_same) ?_ ?_⟩⟩
      · rintro i x H3 H' il ⟨sm, acc, eD, p3⟩ ⟨rfl, kk, vv, q, eq, rfl, hq⟩
        obtain ⟨g, hg, ek, ev⟩ : ∃ g, l[i]? = some g ∧ kG g = kk ∧ V.int g.2.2 = vv := by
          unfold enc at eq
          rw [List.getElem?_map] at eq
          cases hl : l[i]? with
          | none => rw [hl] at eq; cases eq
          | some g =>
            rw [hl] at eq
            have z := Option.some.inj eq
            exact ⟨g, rfl, congrArg Prod.fst z, congrArg Prod.snd z⟩
        subst ek ev
        have mg := List.mem_of_getElem? hg
        refine z_gname ⟨rfl, ?_⟩
        (walk_at "zs")
        refine ⟨d, .int g.2.2, rfl, .inr ⟨enc l, kG g, q, .inr ⟨od, sm _ _ upd_same⟩, rfl, hq, (valV_enc nd2 mg).symm⟩, ?_⟩
        (walk_at "zs")
        refine ⟨sz1000 (Nat.le_of_ble_eq_true rfl), fun p np => ?_⟩
        refine ⟨q, p, [.int g.1, .int g.2.1], [.int g.2.2], rfl, rfl, SqT.of (by rw [upd_ne (ne_of_none hq np)]; exact hq), SqT.of upd_same, List.cons_ne_nil _ _, sz1000 (Nat.le_of_ble_eq_true rfl), fun z => absurd z (List.cons_ne_nil _ _), fun _ t nt => ?_⟩
        have sp : Same H' (upd H' p (.tup [.int g.2.2])) := sameU np
        have st := sp.trans (sameU (o := .tup ([.int g.1, .int g.2.1] ++ [.int g.2.2])) nt)
        have eD' := st _ _ eD
        have dD : ∀ b o, upd H2 d (.frz od (.dT (enc l))) b = some o → b ≠ D := fun b o e => ne_of_none e hD
        have tD : t ≠ D := fun z => by
          rw [z] at nt
          rw [sp _ _ eD] at nt
          cases nt
        refine ⟨acc, eD', ?_, fun b o e => ?_, acc ++ [.ref t], upd_same, ?_⟩
        · rw [p3.len, List.length_take]
          have := List.length_take_le i l
          rw [sizeLine_eq]
          omega
        · rw [upd_ne (dD b o e)]
          exact st _ _ (sm _ _ e)
        · rw [take_one hg]
          exact P3.snoc (p3.kt ((KT.of st).trans (KT.upd eD' fun _ z => by cases z))) (by rw [upd_ne tD, upd_same]; rfl)
      · rintro H3 ⟨sm, acc, eD, p3⟩
        rw [show l.take (enc l).length = l from by rw [show (enc l).length = l.length from List.length_map ..]; exact List.take_length] at p3
        refine ⟨sm _ _ upd_same, ?_⟩
        have Dd : D ≠ d := fun z => by
          rw [z, upd_same] at hD
          cases hD
        have eF : (upd H3 d (.dT (enc l))) D = some (.lst acc) := by rw [upd_ne Dd]; exact eD
        have pF : P3 (upd H3 d (.dT (enc l))) acc l := p3.kt (KT.upd (sm _ _ upd_same) fun _ z => by cases z)
        have gF : Go h c H6 (upd H3 d (.dT (enc l))) := ((g2.mut hd6 nd).trans (Go.same sm)).mut hd6 nd
        have hdF := gF.2 hd6
        (walk_at "zs")
        refine z_sortG eF pF nd2 fun p ys gs' np pm asc p3' => ?_
        have gp := Go.new (o := .lst ys) hdF np
        have hdp := gp.2 hdF
        (walk_at "zs")
        refine ⟨p, ys, rfl, .inl ⟨SqL.of upd_same, fun q nq => ?_⟩⟩
        (walk_at "zs")
        refine k q gs' _ ((g06.trans (gF.trans gp)).trans (Go.new hdp nq)) ⟨?_, asc, fun g hg => el2 g (pm.mem_iff.mp hg)⟩ (.tup (hdp.ne nq) upd_same (P3.rs ((Go.new hdp nq).2 hdp) (p3'.kt (KT.of ((sameU np).trans (sameU nq))))))
        rw [pm.length_eq]
        omega
theorem sc__law_world : FnScope ["hand", "kind", "floors", "room", "groups"] ["hand"] (defScope s__law_world) := ⟨rfl, rfl, rfl, by decide +kernel, rfl, by decide +kernel, by decide +kernel⟩
def dW (f r l : Int) (gs : List G3) : Dt := .tup [.int f, .int r, .int l, .tup (gs.map dG)]
structure Wo (f r l : Int) (gs : List G3) : Prop where
  f1 : 2 ≤ f
  f2 : f ≤ 40
  r1 : 1 ≤ r
  r2 : r ≤ 1000000000000
  l1 : 0 ≤ l
  l2 : l < f
  gs : Gs f gs
def sp__law_world (K : PySem.W.Frag) (A : Ad) : Sp := fun vs H Q E =>
  ∃ (h c : Addr), vs = [.ref h] ∧ Hd h c H ∧ ∀ p f r l gs H', Go h c H H' → Wo f r l gs → R A.cl h H' (.ref p) (dW f r l gs) → Q (.ref p) H'
theorem G__law_world (T : Txt K mg A) : FnOk P w K mg base CX0 4 A.a__law_world A.d__law_world ["hand"] (sp__law_world K A) := by
  refine T.F__law_world.ok sc__law_world (fun vs H Q E h => ?_) (fun cdv A' outer s H vs Q E hr h => ?_)
  · obtain ⟨_, _, rfl, _⟩ := h; rfl
  · obtain ⟨h, c, rfl, hd, k⟩ := h
    refine ⟨_, ((pss_cons (ps_set (i := 1) sc__law_world.nd rfl (Or.inl rfl) (pe_call (G__law_draw T) (hr.mono (by decide)) rfl T.g__law_draw T.F__law_draw.kp T.b__law_draw .nil pass0 (pa_cons (pv 0) (pa_cons pe_int pa_nil))))
          (Evl.pss_cut (ps_if (pt_cmpR op_lt (pv 1) pe_int (nomark _)) (pss_cons (ps_par (i := 2) (j := 3) (by rfl) sc__law_world.nd rfl rfl (by decide) rfl rfl (pa_cons (pe_op op_add pe_int (pe_call (G__law_draw T) (hr.mono (by decide)) rfl T.g__law_draw T.F__law_draw.kp T.b__law_draw .nil pass0 (pa_cons (pv 0) (pa_cons (pe_ix (show IxR _ (rIxL K) from ix_list) (pe_lst (pa_cons pe_int (pa_cons pe_int (pa_cons pe_int pa_nil)))) (pe_op op_fdivN (pv 1) pe_int) (fun _ _ => rfl)) pa_nil)))) (pa_cons (pe_op op_add pe_int (pe_call (G__law_draw T) (hr.mono (by decide)) rfl T.g__law_draw T.F__law_draw.kp T.b__law_draw .nil pass0 (pa_cons (pv 0) (pa_cons pe_int pa_nil)))) pa_nil)) (by rfl))
          (pss_one (ps_set (i := 4) sc__law_world.nd rfl (Or.inl rfl) (pe_call (G__law_groups T) (hr.mono (by decide)) rfl T.g__law_groups T.F__law_groups.kp T.b__law_groups .nil pass0 (pa_cons (pv 0) (pa_cons (pv 2) (pa_cons pe_int (pa_cons pe_int pa_nil)))))))) (Evl.pss_cut (ps_set (i := 2) sc__law_world.nd rfl (Or.inl rfl) (pe_ifExp (pt_cmpR op_eq (pv 1) pe_int (nomark _)) pe_int (pe_op op_add pe_int (pe_call (G__law_draw T) (hr.mono (by decide)) rfl T.g__law_draw T.F__law_draw.kp T.b__law_draw .nil pass0 (pa_cons (pv 0) (pa_cons pe_int pa_nil))))))
          (pss_cons (ps_set (i := 3) sc__law_world.nd rfl (Or.inl rfl) (pe_call (G__law_great T) (hr.mono (by decide)) rfl T.g__law_great T.F__law_great.kp T.b__law_great .nil pass0 (pa_cons (pv 0) (pa_cons (pe_ix (show IxR _ (rIxL K) from ix_list) (pe_lst (pa_cons pe_int (pa_cons (pe_op op_pow pe_int pe_int) (pa_cons (pe_op op_pow pe_int pe_int) pa_nil)))) (pe_call (G__law_draw T) (hr.mono (by decide)) rfl T.g__law_draw T.F__law_draw.kp T.b__law_draw .nil pass0 (pa_cons (pv 0) (pa_cons pe_int pa_nil))) (fun _ _ => rfl)) pa_nil))))
          (pss_one (ps_set (i := 4) sc__law_world.nd rfl (Or.inl rfl) (pe_call (G__law_great_groups T) (hr.mono (by decide)) rfl T.g__law_great_groups T.F__law_great_groups.kp T.b__law_great_groups .nil pass0 (pa_cons (pv 0) (pa_cons (pv 2) pa_nil))))))))
          (pss_one (ps_ret (pe_tup (pa_cons (pv 2) (pa_cons (pv 3) (pa_cons (pe_call (G__law_draw T) (hr.mono (by decide)) rfl T.g__law_draw T.F__law_draw.kp T.b__law_draw .nil pass0 (pa_cons (pv 0) (pa_cons (pv 2) pa_nil))) (pa_cons (pv 4) pa_nil)))))))))), ?_⟩
    try dsimp only [cxOf, Cx.nox]
    (walk_at "zs")
    refine ⟨h, c, _, rfl, hd, by decide, by decide, fun ki H1 ki0 ki1 g1 => ?_⟩
    have hd1 := g1.2 hd
    (walk_at "zs")
    refine z_cut (fun σ HH => ∃ f r pg gs, σ = [some (.ref h), some (.int ki), some (.int f), some (.int r), some (.ref pg)] ∧ Go h c H HH ∧ 2 ≤ f ∧ f ≤ 40 ∧ 1 ≤ r ∧ r ≤ 1000000000000 ∧ Gs f gs ∧ R A.cl h HH (.ref pg) (.tup (gs.map dG))) ?_ ?_
    · (walk_at "zs")
      refine z_ite (fun e0 => ?_) (fun e0 => ?_)
      · (walk_at "zs")
        refine z_newS (fun p2 H2 s2 n2 e2 => ?_)
        have g2 : Go h c H1 H2 := Go.same s2
        have hd2 := g2.2 hd1
        (walk_at "zs")
        refine z_I ⟨by decide, by decide⟩ ?_
        rw [Int.fdiv_eq_ediv_of_nonneg _ (show (0 : Int) ≤ 2 by decide)]
        refine z_ixA e2 (by omega) (show ki / 2 < (([V.int 2, V.int 4, V.int 9].length : Nat) : Int) from by show ki / 2 < 3; omega) fun v hv => ?_
        obtain ⟨m, rfl, m0, m1⟩ : ∃ s, v = .int s ∧ 1 ≤ s ∧ s ≤ 9 := by
          simp only [List.mem_cons, List.not_mem_nil, or_false] at hv
          rcases hv with rfl | rfl | rfl <;> exact ⟨_, rfl, by decide, by decide⟩
        (walk_at "zs")
        refine ⟨h, c, _, rfl, hd2, by omega, by omega, fun a H3 a0 a1 g3 => ?_⟩
        have hd3 := g3.2 hd2
        (walk_at "zs")
        refine ⟨h, c, _, rfl, hd3, by decide, by decide, fun b H4 b0 b1 g4 => ?_⟩
        have hd4 := g4.2 hd3
        (walk_at "zs")
        refine ⟨h, c, _, _, _, rfl, hd4, by omega, by omega, by decide, by decide, by decide, by decide, fun pg gs H5 g5 G5 r5 => ?_⟩
        (walk_at "zs")
        exact ⟨_, _, _, gs, rfl, (((g1.trans g2).trans g3).trans g4).trans g5, by omega, by omega, by omega, by omega, G5, r5⟩
      · (walk_at "zs")
        refine z_cut (fun σ HH => ∃ f u v, σ = [some (.ref h), some (.int ki), some (.int f), u, v] ∧ Go h c H HH ∧ 2 ≤ f ∧ f ≤ 40) ?_ ?_
        · (walk_at "zs")
          refine z_ite (fun e1 => ?_) (fun e1 => ?_)
          · (walk_at "zs")
            exact ⟨_, _, _, rfl, g1, by decide, by decide⟩
          · (walk_at "zs")
            refine ⟨h, c, _, rfl, hd1, by decide, by decide, fun a H3 a0 a1 g3 => ?_⟩
            (walk_at "zs")
            exact ⟨_, _, _, rfl, g1.trans g3, by omega, by omega⟩
        · rintro σ H2 ⟨f, u, v, rfl, g2, f1, f2⟩
          have hd2 := g2.2 hd
          (walk_at "zs")
          refine z_pow (n := 1000000) ⟨by decide, by decide, by decide⟩ rfl ?_
          (walk_at "zs")
          refine z_pow (n := 1000000000000) ⟨by decide, by decide, by decide⟩ rfl ?_
          (walk_at "zs")
          refine z_newS (fun p3 H3 s3 n3 e3 => ?_)
          have g3 : Go h c H2 H3 := Go.same s3
          have hd3 := g3.2 hd2
          (walk_at "zs")
          refine ⟨h, c, _, rfl, hd3, by decide, by decide, fun b H4 b0 b1 g4 => ?_⟩
          have hd4 := g4.2 hd3
          refine z_ixA (g4.1 _ _ (hd2.ne n3) e3) b0 b1 fun v5 hv5 => ?_
          obtain ⟨mo, rfl, mo1, mo2⟩ : ∃ s, v5 = .int s ∧ 1 ≤ s ∧ s ≤ 1000000000000 := by
            simp only [List.mem_cons, List.not_mem_nil, or_false] at hv5
            rcases hv5 with rfl | rfl | rfl <;> exact ⟨_, rfl, by decide, by decide⟩
          (walk_at "zs")
          refine ⟨h, c, _, rfl, hd4, by omega, fun r H5 r1 r2 g5 => ?_⟩
          have hd5 := g5.2 hd4
          (walk_at "zs")
          refine ⟨h, c, _, rfl, hd5, by omega, by omega, fun pg gs H6 g6 G6 r6 => ?_⟩
          (walk_at "zs")
          exact ⟨_, _, _, gs, rfl, (((g2.trans g3).trans g4).trans g5).trans g6, by omega, by omega, by omega, by omega, G6, r6⟩
    · rintro σ H2 ⟨f, r, pg, gs, rfl, g2, f1, f2, r1, r2, G2, rg⟩
      have hd2 := g2.2 hd
      (walk_at "zs")
      refine ⟨h, c, _, rfl, hd2, by omega, by omega, fun l H3 l0 l1 g3 => ?_⟩
      (walk_at "zs")
      refine z_newT (cl := A.cl) (g3.2 hd2) (.cons (.int _) (.cons (.int _) (.cons (.int _) (.cons (g3.r rg) .nil)))) fun p H4 g4 _ r4 => ?_
      (walk_at "zs")
      exact k p f r l gs H4 ((g2.trans g3).trans g4) ⟨f1, f2, r1, r2, l0, l1, G2⟩ r4
theorem sc_BadHouse___init__ : FnScope ["self", "part"] ["self", "part"] (defScope s_BadHouse___init__) := ⟨rfl, rfl, rfl, by decide +kernel, rfl, by decide +kernel, by decide +kernel⟩
theorem G_BadHouse___init__ (T : Txt K mg A) : FnOk P w K mg base CX0 1 A.a_BadHouse___init__ A.d_BadHouse___init__ ["self", "part"] (spX1 K A.c_BadHouse "part") := by
  refine T.F_BadHouse___init__.ok sc_BadHouse___init__ (fun vs H Q E h => ?_) (fun cdv A' outer s H vs Q E hr h => ?_)
  · obtain ⟨_, _, rfl, _⟩ := h
    rfl
  · obtain ⟨a, v, rfl, T1, no, ha, k⟩ := h
    refine ⟨_, ((pss_one (ps_ost (pv 0) (pv 1)))), z_ost rfl rfl T1 no ha k⟩
theorem sc_House___init__ : FnScope ["self", "floors", "room"] ["self", "floors", "room"] (defScope s_House___init__) := ⟨rfl, rfl, rfl, by decide +kernel, rfl, by decide +kernel, by decide +kernel⟩
def sp_House___init__ (K : PySem.W.Frag) (A : Ad) : Sp := fun vs H Q E =>
  ∃ (h : Addr) (x dx : Addr) (fv rv : V) (fd rd : Dt), vs = [.ref x, fv, rv] ∧ H x = some (.ins A.c_House dx []) ∧ R A.cl h H fv fd ∧ R A.cl h H rv rd ∧
  (fd.bet 2 40 = false → ∀ d, H d = none → E (.ref A.c_BadHouse) (some d) (upd H d (.xd [("part", .str "floors")]))) ∧
  (fd.bet 2 40 = true → rd.bet 1 1000000000000 = false → ∀ d, H d = none → E (.ref A.c_BadHouse) (some d) (upd H d (.xd [("part", .str "room")]))) ∧
  (fd.bet 2 40 = true → rd.bet 1 1000000000000 = true → Q .non (upd H x (.ins A.c_House dx [("floors", fv), ("room", rv)])))
theorem G_House___init__ (T : Txt K mg A) : FnOk P w K mg base (L2.CX P w) 3 A.a_House___init__ A.d_House___init__ ["self", "floors", "room"] (sp_House___init__ K A) := by
  refine T.F_House___init__.okX sc_House___init__ (fun vs H Q E h => ?_) (fun cdv A' outer s H vs Q E hr h => ?_)
  · obtain ⟨_, _, _, _, _, _, _, rfl, _⟩ := h; rfl
  · obtain ⟨h, x, dx, fv, rv, fd, rd, rfl, hx, r1, r2, k1, k2, k3⟩ := h
    refine ⟨_, ((pss_cons (ps_if (pt_not (pt_val (pe_call (G_is_between T) (hr.mono (by decide)) rfl T.g_is_between T.F_is_between.kp T.b_is_between .nil pass0 (pa_cons pe_int (pa_cons (pe_gi rfl T.c_MOST_FLOORS) (pa_cons (pv 1) pa_nil)))))) (pss_one (ps_raise rfl (takes_of rfl rfl rfl rfl) (pmk_oex T.oe_BadHouse T.i_BadHouse T.t_BadHouse (G_BadHouse___init__ T) (hr.mono (by decide)) T.b_BadHouse___init__ .nil pass0 rfl T.g_BadHouse (pa_cons pe_str pa_nil)))) pss_nil)
          (pss_cons (ps_if (pt_not (pt_val (pe_call (G_is_between T) (hr.mono (by decide)) rfl T.g_is_between T.F_is_between.kp T.b_is_between .nil pass0 (pa_cons pe_int (pa_cons (pe_gi rfl T.c_MOST_ROOM) (pa_cons (pv 2) pa_nil)))))) (pss_one (ps_raise rfl (takes_of rfl rfl rfl rfl) (pmk_oex T.oe_BadHouse T.i_BadHouse T.t_BadHouse (G_BadHouse___init__ T) (hr.mono (by decide)) T.b_BadHouse___init__ .nil pass0 rfl T.g_BadHouse (pa_cons pe_str pa_nil)))) pss_nil)
          (pss_cons (ps_fld (pv 0) (pv 1) rfl)
          (pss_one (ps_fld (pv 0) (pv 2) rfl)))))), ?_⟩
    try dsimp only [cxOf, Cx.nox]
    (walk_at "zs")
    refine ⟨h, fv, fd, _, _, rfl, r1, ?_⟩
    (walk_at "zs")
    refine z_iteN (fun e1 => ?_) (fun e1 => ?_)
    · exact z_raiseC T.oe_BadHouse T.no_BadHouse (k1 e1)
    · (walk_at "zs")
      refine ⟨h, rv, rd, _, _, rfl, r2, ?_⟩
      (walk_at "zs")
      refine z_iteN (fun e2 => ?_) (fun e2 => ?_)
      · exact z_raiseC T.oe_BadHouse T.no_BadHouse (k2 e1 e2)
      · (walk_at "zs")
        refine ⟨x, _, dx, _, rfl, hx, (T.kits.kit 0).cl, T.na_House_floors, by decide, ?_⟩
        (walk_at "zs")
        refine ⟨x, _, dx, _, rfl, upd_same, (T.kits.kit 0).cl, T.na_House_room, by show 1 < 1000; decide, ?_⟩
        (walk_at "zs")
        rw [upd_upd, putF_one, putF_more _ _ _ (by decide +kernel)]
        exact k3 e1 e2
theorem z_house {h c : Addr} {H : Hp} {fv rv : V} {fd rd : Dt} {Q : VK} {E : XK} (hd : Hd h c H) (r1 : R A.cl h H fv fd) (r2 : R A.cl h H rv rd) (e1 : fd.bet 2 40 = true) (e2 : rd.bet 1 1000000000000 = true)
    (q : ∀ x H', Go h c H H' → H x = none → R A.cl h H' (.ref x) (.ins 0 ["floors", "room"] [fd, rd]) → Q (.ref x) H') :
    newO A.c_House (sp_House___init__ K A) E Q [fv, rv] H := by
  intro x dx nx nd ne
  have g0 := Go.ins0 (o := .ins A.c_House dx []) hd nx nd
  refine ⟨h, x, dx, fv, rv, fd, rd, rfl, upd_same, g0.r r1, g0.r r2, fun z => ?_, fun _ z => ?_, fun _ _ => ⟨rfl, ?_⟩⟩
  · rw [e1] at z
    cases z
  · rw [e2] at z
    cases z
  · exact q x _ (Go.ins hd nx nd) nx (RS.newI (cl := A.cl) (k := 0) (ns := ["floors", "room"]) hd nx nd (.cons r1 (.cons r2 .nil)) rfl)
theorem sc_Standing___eq__ : FnScope ["self", "other"] ["self", "other"] (defScope s_Standing___eq__) := ⟨rfl, rfl, rfl, by decide +kernel, rfl, by decide +kernel, by decide +kernel⟩
def sp_Standing___eq__ (K : PySem.W.Frag) (A : Ad) : Sp := fun vs H Q E =>
  ∃ (h : Addr) (v v' : V) (f r l : Int) (gs : List G3) (d : Dt), vs = [v, v'] ∧ R A.cl h H v (.stn f r l gs) ∧ R A.cl h H v' d ∧ (d.isO A.cl A.c_Standing = true → ∃ f' r' l' gs', d = .stn f' r' l' gs') ∧
  ∀ b : Bool, (b = true ↔ d = .stn f r l gs) → Q (.bl b) H
theorem G_Standing___eq__ (T : Txt K mg A) : FnOk P w K mg base CX0 3 A.a_Standing___eq__ A.d_Standing___eq__ ["self", "other"] (sp_Standing___eq__ K A) := by
  refine T.F_Standing___eq__.ok sc_Standing___eq__ (fun vs H Q E h => ?_) (fun cdv A' outer s H vs Q E hr h => ?_)
  · obtain ⟨_, _, _, _, _, _, _, _, rfl, _⟩ := h; rfl
  · obtain ⟨h, v, v', f, r, l, gs, d, rfl, rx, rv, hd, k⟩ := h
    refine ⟨_, ((pss_one (ps_ret (pe_and (pe_callB call_isi (by rfl) T.n_isinstance (by decide +kernel) (pa_cons (pv 1) (pa_cons (pe_glob (v := .ref A.c_Standing) (by rfl) T.g_Standing rfl) pa_nil))) (pe_and (pe_cmpR (op_eqO (E := E0) (G_House___eq__ T) (hr.mono (by decide)) T.eq_House T.F_House___eq__i T.b_House___eq__ pass0) (pe_fld (pv 0) rfl) (pe_fld (pv 1) rfl) (nomark _)) (pe_and (pe_cmpR op_eq (pe_fld (pv 0) rfl) (pe_fld (pv 1) rfl) (nomark _)) (pe_one (pe_cmpR (op_eqD hr.units) (pe_fld (pv 0) rfl) (pe_fld (pv 1) rfl) (nomark _))))))))), ?_⟩
    try dsimp only [cxOf, Cx.nox]
    (walk_at "zs")
    refine isi_own (c := 1) T.kits rv ?_
    (walk_at "zs")
    refine z_iteB (fun e => ?_) (fun e => ?_)
    · obtain ⟨f', r', l', gs', rfl⟩ := hd e
      obtain ⟨x, dx, hv, gv, rfl, _, hx, rh, rg⟩ := rx.stn_inv
      obtain ⟨y, dy, hw, gw, rfl, _, hy, rh', rg'⟩ := rv.stn_inv
      have n1 : ¬ ("lift" : Str) = "house" := by decide +kernel
      have n2 : ¬ ("groups" : Str) = "house" := by decide +kernel
      have n3 : ¬ ("groups" : Str) = "lift" := by decide +kernel
      (walk_at "zs")
      refine ⟨x, _, dx, _, _, rfl, hx, (T.kits.kit 1).cl, T.na_Standing_house, lk_fst, ?_⟩
      (walk_at "zs")
      refine ⟨y, _, dy, _, _, rfl, hy, (T.kits.kit 1).cl, T.na_Standing_house, lk_fst, ?_⟩
      refine z_hh T rh rh' ?_
      (walk_at "zs")
      refine z_ite (fun e1 => ?_) (fun e1 => ?_)
      · (walk_at "zs")
        refine ⟨x, _, dx, _, _, rfl, hx, (T.kits.kit 1).cl, T.na_Standing_lift, (lk_nxt n1).trans lk_fst, ?_⟩
        (walk_at "zs")
        refine ⟨y, _, dy, _, _, rfl, hy, (T.kits.kit 1).cl, T.na_Standing_lift, (lk_nxt n1).trans lk_fst, ?_⟩
        (walk_at "zs")
        refine z_ite (fun e2 => ?_) (fun e2 => ?_)
        · (walk_at "zs")
          refine ⟨x, _, dx, _, _, rfl, hx, (T.kits.kit 1).cl, T.na_Standing_groups, (lk_nxt n2).trans ((lk_nxt n3).trans lk_fst), ?_⟩
          (walk_at "zs")
          refine ⟨y, _, dy, _, _, rfl, hy, (T.kits.kit 1).cl, T.na_Standing_groups, (lk_nxt n2).trans ((lk_nxt n3).trans lk_fst), ?_⟩
          refine z_eqG rg rg' ?_
          refine k _ ?_
          rw [decide_eq_true_iff, stn_inj]
          exact ⟨fun z => ⟨e1.1, e1.2, e2.symm, z.symm⟩, fun z => z.2.2.2.symm⟩
        · (walk_at "zs")
          exact k _ ⟨fun z => Bool.noConfusion z, fun z => absurd (stn_inj.mp z).2.2.1.symm e2⟩
      · (walk_at "zs")
        exact k _ ⟨fun z => Bool.noConfusion z, fun z => absurd ⟨(stn_inj.mp z).1, (stn_inj.mp z).2.1⟩ e1⟩
    · refine k false ⟨fun z => Bool.noConfusion z, fun z => ?_⟩
      rw [z] at e
      have : decide (A.cl 1 = A.cl 1) = false := e
      simp at this
theorem z_ss {h : Addr} {H : Hp} {v v' : V} {f r l f' r' l' : Int} {gs gs' : List G3} {Q : VK} {E : XK} (T : Txt K mg A) (rx : R A.cl h H v (.stn f r l gs)) (ry : R A.cl h H v' (.stn f' r' l' gs')) (q : Q (.bl (decide (f' = f ∧ r' = r ∧ l' = l ∧ gs' = gs))) H) :
    rEqO K A.c_Standing (sp_Standing___eq__ K A) E v v' H Q := by
  refine z_eqO (cl := A.cl) (c := 1) T.kits rx ry ⟨h, v, v', f, r, l, gs, _, rfl, rx, ry, fun _ => ⟨_, _, _, _, rfl⟩, fun b hb => ?_⟩
  have e : b = decide (f' = f ∧ r' = r ∧ l' = l ∧ gs' = gs) := by
    rw [Bool.eq_iff_iff, decide_eq_true_iff, hb, stn_inj]
  rw [e]
  exact q
theorem z_ssN {h : Addr} {H : Hp} {v v' : V} {f r l f' r' l' : Int} {gs gs' : List G3} {Q : VK} {E : XK} (T : Txt K mg A) (rx : R A.cl h H v (.stn f r l gs)) (ry : R A.cl h H v' (.stn f' r' l' gs')) (q : Q (.bl (!decide (f' = f ∧ r' = r ∧ l' = l ∧ gs' = gs))) H) :
    rNeO K A.c_Standing (sp_Standing___eq__ K A) E v v' H Q := by
  refine z_neO (cl := A.cl) (c := 1) T.kits rx ry ⟨h, v, v', f, r, l, gs, _, rfl, rx, ry, fun _ => ⟨_, _, _, _, rfl⟩, fun b hb => ⟨b, rfl, ?_⟩⟩
  have e : b = decide (f' = f ∧ r' = r ∧ l' = l ∧ gs' = gs) := by
    rw [Bool.eq_iff_iff, decide_eq_true_iff, hb, stn_inj]
  rw [e]
  exact q
theorem sc__law_some : FnScope ["hand", "things"] ["hand", "things"] (defScope s__law_some) := ⟨rfl, rfl, rfl, by decide +kernel, rfl, by decide +kernel, by decide +kernel⟩
def sp__law_some (K : PySem.W.Frag) (A : Ad) : Sp := fun vs H Q E =>
  ∃ (h c p : Addr) (xs : List V), vs = [.ref h, .ref p] ∧ Hd h c H ∧ p ≠ h ∧ H p = some (.lst xs) ∧ 0 < xs.length ∧ xs.length < 1000000 ∧ ∀ (v : V) (i : Nat) (H' : Hp), xs[i]? = some v → Go h c H H' → Q v H'
theorem G__law_some (T : Txt K mg A) : FnOk P w K mg base CX0 2 A.a__law_some A.d__law_some ["hand", "things"] (sp__law_some K A) := by
  refine T.F__law_some.ok sc__law_some (fun vs H Q E h => ?_) (fun cdv A' outer s H vs Q E hr h => ?_)
  · obtain ⟨_, _, _, _, rfl, _⟩ := h; rfl
  · obtain ⟨h, c, p, xs, rfl, hd, np, hp, l0, l1, k⟩ := h
    refine ⟨_, ((pss_one (ps_ret (pe_ix (show IxR _ (rIxL K) from ix_list) (pv 1) (pe_call (G__law_draw T) (hr.mono (by decide)) rfl T.g__law_draw T.F__law_draw.kp T.b__law_draw .nil pass0 (pa_cons (pv 0) (pa_cons (pe_callB call_len_seq (by rfl) T.n_len (by decide +kernel) (pa_cons (pv 1) pa_nil)) pa_nil))) (fun _ _ => rfl))))), ?_⟩
    try dsimp only [cxOf, Cx.nox]
    (walk_at "zs")
    refine ⟨_, _, rfl, .inl (.inl (.inl hp)), ?_⟩
    (walk_at "zs")
    refine ⟨h, c, _, rfl, hd, by omega, by omega, fun r H1 r0 r1 g => ?_⟩
    have hi : r.toNat < xs.length := by omega
    have e : ((r.toNat : Nat) : Int) = r := by omega
    have a : atI xs r = some xs[r.toNat] := by
      have z := atI_nat (xs := xs) (j := r.toNat) (v := xs[r.toNat]) (List.getElem?_eq_getElem hi)
      rw [e] at z
      exact z
    refine z_ixL (.inl (.inl (g.1 _ _ np hp))) a ?_
    exact k _ r.toNat H1 (List.getElem?_eq_getElem hi) g
theorem sc__law_deep : FnScope ["kind", "found", "turn"] ["kind"] (defScope s__law_deep) := ⟨rfl, rfl, rfl, by decide +kernel, rfl, by decide +kernel, by decide +kernel⟩
def sp__law_deep (K : PySem.W.Frag) (A : Ad) : Sp := fun vs H Q E =>
  ∃ (h c : Addr) (S : Addr → Prop) (k : Int), vs = [.int k] ∧ Hd h c H ∧ Sx S h H ∧ 0 ≤ k ∧ k < 3 ∧ ∀ (v : V) (d : Dt) (H' : Hp), Go h c H H' → RS A.cl S H' v d → (d.isT = true ∨ d.isL = true) → Q v H'
theorem G__law_deep (T : Txt K mg A) : FnOk P w K mg base CX0 1 A.a__law_deep A.d__law_deep ["kind"] (sp__law_deep K A) := by
  refine T.F__law_deep.ok sc__law_deep (fun vs H Q E h => ?_) (fun cdv A' outer s H vs Q E hr h => ?_)
  · obtain ⟨_, _, _, _, rfl, _⟩ := h; rfl
  · obtain ⟨h, c, S, k, rfl, hd, sx, k0, k1, q⟩ := h
    refine ⟨_, ((pss_cons (ps_set (i := 1) sc__law_deep.nd rfl (Or.inl rfl) (pe_tup pa_nil))
          (pss_cons (ps_for PassesOwn.never rfl (pi_range1 (by rfl) T.n_range (pa_cons pe_int pa_nil)) (pg_name (i := 2) sc__law_deep.nd rfl (Or.inl rfl))
          (pss_one (ps_set (i := 1) sc__law_deep.nd rfl (Or.inl rfl) (pe_ix (show IxR _ (rIxL K) from ix_list) (pe_lst (pa_cons (pe_tup (pa_cons (pe_tup (pa_cons pe_int (pa_cons (pv 1) pa_nil))) pa_nil)) (pa_cons (pe_lst (pa_cons (pe_lst (pa_cons (pv 1) pa_nil)) pa_nil)) (pa_cons (pe_tup (pa_cons pe_str (pa_cons (pe_tup (pa_cons (pv 1) pa_nil)) pa_nil))) pa_nil)))) (pv 0) (fun _ _ => rfl)))))
          (pss_one (ps_ret (pv 1)))))), ?_⟩
    try dsimp only [cxOf, Cx.nox]
    (walk_at "zs")
    refine z_newTS (cl := A.cl) hd sx .nil fun p H1 g1 _ _ r1 => ?_
    (walk_at "zs")
    refine ⟨_, rfl, by decide, by decide, for_range (lo := 0) (n := 15) (fun _ σ H2 => ∃ (v : V) (d : Dt) (u : Option V), σ = [some (.int k), some v, u] ∧ Go h c H H2 ∧ RS A.cl S H2 v d ∧ (d.isT = true ∨ d.isL = true)) ⟨_, _, none, rfl, g1, r1, .inl rfl⟩ ?_ ?_⟩
    · rintro i σ H2 _ ⟨v, d, u, rfl, g2, r2, _⟩
      have hd2 := g2.2 hd
      have x2 := sx.go hd g2
      (walk_at "zs")
      refine z_newTS hd2 x2 (.cons (.int _) (.cons r2 .nil)) fun p3 H3 g3 x3 _ r3 => ?_
      have hd3 := g3.2 hd2
      (walk_at "zs")
      refine z_newTS hd3 x3 (.cons r3 .nil) fun p4 H4 g4 x4 _ r4 => ?_
      have hd4 := g4.2 hd3
      have g24 := g3.trans g4
      (walk_at "zs")
      refine z_newLS hd4 x4 (.cons (RS.go x2 g24 r2) .nil) fun p5 H5 g5 x5 _ r5 => ?_
      have hd5 := g5.2 hd4
      have g25 := g24.trans g5
      (walk_at "zs")
      refine z_newLS hd5 x5 (.cons r5 .nil) fun p6 H6 g6 x6 _ r6 => ?_
      have hd6 := g6.2 hd5
      have g26 := g25.trans g6
      (walk_at "zs")
      refine z_newTS hd6 x6 (.cons (RS.go x2 g26 r2) .nil) fun p7 H7 g7 x7 _ r7 => ?_
      have hd7 := g7.2 hd6
      have g27 := g26.trans g7
      (walk_at "zs")
      refine z_newTS hd7 x7 (.cons (.str _) (.cons r7 .nil)) fun p8 H8 g8 x8 _ r8 => ?_
      have hd8 := g8.2 hd7
      have g28 := g27.trans g8
      (walk_at "zs")
      refine z_newLS hd8 x8 (.cons (RS.go x4 (((g5.trans g6).trans g7).trans g8) r4) (.cons (RS.go x6 (g7.trans g8) r6) (.cons r8 .nil))) fun p9 H9 g9 x9 _ r9 => ?_
      have g29 := g28.trans g9
      obtain ⟨_, xs, e9, n9, h9, s9⟩ := r9.lst_inv2
      cases e9
      (walk_at "zs")
      have three : k = 0 ∨ k = 1 ∨ k = 2 := by omega
      obtain ⟨va, vb, vc, rfl, ra, rb, rc⟩ : ∃ va vb vc, xs = [va, vb, vc] ∧ RS A.cl S H9 va _ ∧ RS A.cl S H9 vb _ ∧ RS A.cl S H9 vc _ := by
        cases s9 with
        | cons ra t => cases t with
          | cons rb t => cases t with
            | cons rc t => cases t; exact ⟨_, _, _, rfl, ra, rb, rc⟩
      rcases three with rfl | rfl | rfl
      · refine z_ixL (.inl (.inl h9)) rfl ?_
        (walk_at "zs")
        exact ⟨_, _, _, rfl, g2.trans g29, ra, .inl rfl⟩
      · refine z_ixL (.inl (.inl h9)) rfl ?_
        (walk_at "zs")
        exact ⟨_, _, _, rfl, g2.trans g29, rb, .inr rfl⟩
      · refine z_ixL (.inl (.inl h9)) rfl ?_
        (walk_at "zs")
        exact ⟨_, _, _, rfl, g2.trans g29, rc, .inl rfl⟩
    · rintro σ H2 ⟨v, d, u, rfl, g2, r2, hT⟩
      (walk_at "zs")
      exact q v d H2 g2 r2 hT
theorem sc__law_odd : FnScope ["hand", "floors", "house", "things"] ["hand", "floors", "house"] (defScope s__law_odd) := ⟨rfl, rfl, rfl, by decide +kernel, rfl, by decide +kernel, by decide +kernel⟩
def sp__law_odd (K : PySem.W.Frag) (A : Ad) : Sp := fun vs H Q E =>
  ∃ (h c : Addr) (S : Addr → Prop) (f : Int) (hv : V) (hD : Dt), vs = [.ref h, .int f, hv] ∧ Hd h c H ∧ Sx S h H ∧ RS A.cl S H hv hD ∧ ∀ (v : V) (d : Dt) (H' : Hp), Go h c H H' → RS A.cl S H' v d → Q v H'
theorem G__law_odd (T : Txt K mg A) : FnOk P w K mg base CX0 3 A.a__law_odd A.d__law_odd ["hand", "floors", "house"] (sp__law_odd K A) := by
  refine T.F__law_odd.ok sc__law_odd (fun vs H Q E h => ?_) (fun cdv A' outer s H vs Q E hr h => ?_)
  · obtain ⟨_, _, _, _, _, _, rfl, _⟩ := h; rfl
  · obtain ⟨h, c, S, f, hv, hD, rfl, hd, sx, rh, q⟩ := h
    refine ⟨_, ((pss_cons (ps_set (i := 3) sc__law_odd.nd rfl (Or.inl rfl) (pe_lst (pa_cons (pe_un un_neg pe_int) (pa_cons (pv 1) (pa_cons (pe_op op_sub (pv 1) pe_int) (pa_cons pe_int (pa_cons (pe_op op_pow pe_int pe_int) (pa_cons (pe_op op_add (pe_op op_pow pe_int pe_int) pe_int) (pa_cons (pe_op op_pow pe_int pe_int) (pa_cons pe_bl (pa_cons pe_bl (pa_cons pe_non (pa_cons pe_str (pa_cons (pe_tup (pa_cons pe_int pa_nil)) (pa_cons (pe_lst (pa_cons pe_int pa_nil)) (pa_cons pe_dnewK (pa_cons (pv 2) pa_nil)))))))))))))))))
          (pss_one (ps_ret (pe_call (G__law_some T) (hr.mono (by decide)) rfl T.g__law_some T.F__law_some.kp T.b__law_some .nil pass0 (pa_cons (pv 0) (pa_cons (pe_op op_cat (pv 3) (pe_lst (pa_cons (pe_call (G__law_deep T) (hr.mono (by decide)) rfl T.g__law_deep T.F__law_deep.kp T.b__law_deep .nil pass0 (pa_cons (pe_call (G__law_draw T) (hr.mono (by decide)) rfl T.g__law_draw T.F__law_draw.kp T.b__law_draw .nil pass0 (pa_cons (pv 0) (pa_cons pe_int pa_nil))) pa_nil)) pa_nil))) pa_nil))))))), ?_⟩
    try dsimp only [cxOf, Cx.nox]
    (walk_at "zs")
    refine z_pow (n := 1000000000000000000000000000000) ⟨by decide, by decide, by decide⟩ rfl ?_
    (walk_at "zs")
    refine z_pow (n := 1000000000000000000000000000000) ⟨by decide, by decide, by decide⟩ rfl ?_
    (walk_at "zs")
    refine z_pow (n := 1000000000000000000000000000000000000000) ⟨by decide, by decide, by decide⟩ rfl ?_
    (walk_at "zs")
    refine z_newTS (cl := A.cl) hd sx (.cons (.int _) .nil) fun p1 H1 g1 x1 _ r1 => ?_
    have hd1 := g1.2 hd
    (walk_at "zs")
    refine z_newLS (cl := A.cl) hd1 x1 (.cons (.int _) .nil) fun p2 H2 g2 x2 _ r2 => ?_
    have hd2 := g2.2 hd1
    (walk_at "zs")
    refine z_newDS (cl := A.cl) hd2 x2 fun p3 H3 g3 x3 _ r3 => ?_
    have hd3 := g3.2 hd2
    have g13 := (g1.trans g2).trans g3
    (walk_at "zs")
    refine z_newLS hd3 x3 (.cons (.int _) (.cons (.int _) (.cons (.int _) (.cons (.int _) (.cons (.int _) (.cons (.int _) (.cons (.int _) (.cons (.bl _) (.cons (.bl _) (.cons .non (.cons (.str _)
      (.cons (RS.go x1 (g2.trans g3) r1) (.cons (RS.go x2 g3 r2) (.cons r3 (.cons (RS.go sx g13 rh) .nil))))))))))))))) fun p5 H5 g5 x5 _ r5 => ?_
    have hd5 := g5.2 hd3
    (walk_at "zs")
    refine ⟨h, c, _, rfl, hd5, by decide, by decide, fun k H6 k0 k1 g6 => ?_⟩
    have hd6 := g6.2 hd5
    have x6 := x5.go hd5 g6
    refine ⟨h, c, S, _, rfl, hd6, x6, k0, k1, fun v d H7 g7 r7 hT => ?_⟩
    have hd7 := g7.2 hd6
    have x7 := x6.go hd6 g7
    (walk_at "zs")
    refine z_newLS hd7 x7 (.cons r7 .nil) fun p8 H8 g8 x8 _ r8 => ?_
    have hd8 := g8.2 hd7
    refine z_catSS hd8 x8 (RS.go x5 ((g6.trans g7).trans g8) r5) r8 (Nat.le_of_ble_eq_true rfl) fun p9 H9 g9 x9 _ r9 => ?_
    have hd9 := g9.2 hd8
    obtain ⟨_, xs, e9, n9, h9, s9⟩ := r9.lst_inv2
    cases e9
    have l9 := s9.len2
    (walk_at "zs")
    refine ⟨h, c, p9, xs, rfl, hd9, x9.ne _ n9, h9, by rw [l9]; simp, by rw [l9]; simp, fun v i H10 hv g10 => ?_⟩
    obtain ⟨dv, hdv, rv⟩ := s9.atV2 hv
    exact q v dv H10 ((((((g13.trans g5).trans g6).trans g7).trans g8).trans g9).trans g10) (RS.go x9 g10 rv)
theorem sc__law_bent : FnScope ["hand", "groups", "floors", "house", "rows", "at", "kind", "place", "row", "things"] ["hand", "groups", "floors", "house"] (defScope s__law_bent) := ⟨rfl, rfl, rfl, by decide +kernel, rfl, by decide +kernel, by decide +kernel⟩
def sp__law_bent (K : PySem.W.Frag) (A : Ad) : Sp := fun vs H Q E =>
  ∃ (h c : Addr) (gv : V) (gs : List G3) (f : Int) (hv : V) (hD : Dt), vs = [.ref h, gv, .int f, hv] ∧ Hd h c H ∧ R A.cl h H gv (.tup (gs.map dG)) ∧ Gs f gs ∧ R A.cl h H hv hD ∧ ∀ (v : V) (d : Dt) (H' : Hp), Go h c H H' → R A.cl h H' v d → Q v H'
theorem G__law_bent (T : Txt K mg A) : FnOk P w K mg base CX0 4 A.a__law_bent A.d__law_bent ["hand", "groups", "floors", "house"] (sp__law_bent K A) := by
  refine T.F__law_bent.ok sc__law_bent (fun vs H Q E h => ?_) (fun cdv A' outer s H vs Q E hr h => ?_)
  · obtain ⟨_, _, _, _, _, _, _, rfl, _⟩ := h; rfl
  · obtain ⟨h, c, gv, gs, f, hv, hD, rfl, hd, rg, hg, rh, q⟩ := h
    refine ⟨_, ((pss_cons (ps_set (i := 4) sc__law_bent.nd rfl (Or.inl rfl) (pe_callTy call_list_of (by rfl) T.n_list (by decide +kernel) (pa_cons (pv 1) pa_nil)))
          (pss_cons (ps_set (i := 5) sc__law_bent.nd rfl (Or.inl rfl) (pe_call (G__law_draw T) (hr.mono (by decide)) rfl T.g__law_draw T.F__law_draw.kp T.b__law_draw .nil pass0 (pa_cons (pv 0) (pa_cons (pe_op op_add (pe_callB call_len_seq (by rfl) T.n_len (by decide +kernel) (pa_cons (pv 4) pa_nil)) pe_int) pa_nil))))
          (pss_cons (ps_set (i := 6) sc__law_bent.nd rfl (Or.inl rfl) (pe_call (G__law_draw T) (hr.mono (by decide)) rfl T.g__law_draw T.F__law_draw.kp T.b__law_draw .nil pass0 (pa_cons (pv 0) (pa_cons pe_int pa_nil))))
          (pss_cons (ps_if (pt_cmpR op_eq (pv 6) pe_int (nomark _)) (pss_cons (ps_set (i := 9) sc__law_bent.nd rfl (Or.inl rfl) (pe_lst (pa_cons (pe_callTy call_list_of (by rfl) T.n_list (by decide +kernel) (pa_cons (pv 4) pa_nil)) (pa_cons pe_non (pa_cons (pe_tup pa_nil) (pa_cons pe_dnewK (pa_cons pe_str (pa_cons pe_int (pa_cons pe_bl (pa_cons (pv 3) (pa_cons (pe_call (G__law_deep T) (hr.mono (by decide)) rfl T.g__law_deep T.F__law_deep.kp T.b__law_deep .nil pass0 (pa_cons (pe_call (G__law_draw T) (hr.mono (by decide)) rfl T.g__law_draw T.F__law_draw.kp T.b__law_draw .nil pass0 (pa_cons (pv 0) (pa_cons pe_int pa_nil))) pa_nil)) (pa_cons (pe_callTy call_tuple_of (by rfl) T.n_tuple (by decide +kernel) (pa_cons (pe_revL (pv 4)) pa_nil)) pa_nil))))))))))))
          (pss_one (ps_ret (pe_call (G__law_some T) (hr.mono (by decide)) rfl T.g__law_some T.F__law_some.kp T.b__law_some .nil pass0 (pa_cons (pv 0) (pa_cons (pv 9) pa_nil)))))) pss_nil)
          (pss_cons (ps_if (pt_cmpR op_eq (pv 6) pe_int (nomark _)) (pss_one (ps_ret (pe_callTy call_tuple_of (by rfl) T.n_tuple (by decide +kernel) (pa_cons (pe_op op_cat (pe_op op_cat (pe_slice sl_list (pv 4) po_none (po_some (pv 5))) (pe_lst (pa_cons (pe_call (G__law_odd T) (hr.mono (by decide)) rfl T.g__law_odd T.F__law_odd.kp T.b__law_odd .nil pass0 (pa_cons (pv 0) (pa_cons (pv 2) (pa_cons (pv 3) pa_nil)))) pa_nil))) (pe_slice sl_list (pv 4) (po_some (pv 5)) po_none)) pa_nil)))) pss_nil)
          (pss_cons (ps_if (PW.pt (pw_and (pt_cmpR op_eq (pv 6) pe_int (nomark _)) (pw_and1 (pt_cmpR (op_neD hr.units) (pv 4) (pe_lst pa_nil) (nomark _))))) (pss_cons (ps_set (i := 5) sc__law_bent.nd rfl (Or.inl rfl) (pe_call (G__law_draw T) (hr.mono (by decide)) rfl T.g__law_draw T.F__law_draw.kp T.b__law_draw .nil pass0 (pa_cons (pv 0) (pa_cons (pe_callB call_len_seq (by rfl) T.n_len (by decide +kernel) (pa_cons (pv 4) pa_nil)) pa_nil))))
          (pss_one (ps_ret (pe_callTy call_tuple_of (by rfl) T.n_tuple (by decide +kernel) (pa_cons (pe_op op_cat (pe_op op_cat (pe_slice sl_list (pv 4) po_none (po_some (pe_op op_add (pv 5) pe_int))) (pe_lst (pa_cons (pe_ix (show IxR _ (rIxL K) from ix_list) (pv 4) (pv 5) (fun _ _ => rfl)) pa_nil))) (pe_slice sl_list (pv 4) (po_some (pe_op op_add (pv 5) pe_int)) po_none)) pa_nil))))) pss_nil)
          (pss_cons (ps_if (pt_cmpR (op_eqD hr.units) (pv 4) (pe_lst pa_nil) (nomark _)) (pss_one (ps_ret (pv 1))) pss_nil)
          (pss_cons (ps_par (i := 5) (j := 7) (by rfl) sc__law_bent.nd rfl rfl (by decide) rfl rfl (pa_cons (pe_call (G__law_draw T) (hr.mono (by decide)) rfl T.g__law_draw T.F__law_draw.kp T.b__law_draw .nil pass0 (pa_cons (pv 0) (pa_cons (pe_callB call_len_seq (by rfl) T.n_len (by decide +kernel) (pa_cons (pv 4) pa_nil)) pa_nil))) (pa_cons (pe_call (G__law_draw T) (hr.mono (by decide)) rfl T.g__law_draw T.F__law_draw.kp T.b__law_draw .nil pass0 (pa_cons (pv 0) (pa_cons pe_int pa_nil))) pa_nil)) (by rfl))
          (pss_cons (ps_if (pt_not (pt_val (pe_call (G__law_is_group T) (hr.mono (by decide)) rfl T.g__law_is_group T.F__law_is_group.kp T.b__law_is_group .nil pass0 (pa_cons (pe_ix (show IxR _ (rIxL K) from ix_list) (pv 4) (pv 5) (fun _ _ => rfl)) (pa_cons (pv 2) pa_nil))))) (pss_one (ps_ret (pv 1))) pss_nil)
          (pss_cons (ps_set (i := 8) sc__law_bent.nd rfl (Or.inl rfl) (pe_callTy call_list_of (by rfl) T.n_list (by decide +kernel) (pa_cons (pe_ix (show IxR _ (rIxL K) from ix_list) (pv 4) (pv 5) (fun _ _ => rfl)) pa_nil)))
          (pss_cons (ps_if (pt_cmpR op_eq (pv 6) pe_int (nomark _)) (pss_one (ps_ret (pe_callTy call_tuple_of (by rfl) T.n_tuple (by decide +kernel) (pa_cons (pe_op op_cat (pe_op op_cat (pe_slice sl_list (pv 4) po_none (po_some (pe_op op_add (pv 5) pe_int))) (pe_lst (pa_cons (pe_tup (pa_cons (pe_ix (show IxR _ (rIxL K) from ix_list) (pv 8) pe_int (fun _ _ => rfl)) (pa_cons (pe_ix (show IxR _ (rIxL K) from ix_list) (pv 8) pe_int (fun _ _ => rfl)) (pa_cons (pe_op op_add (pe_ix (show IxR _ (rIxL K) from ix_list) (pv 8) pe_int (fun _ _ => rfl)) pe_int) pa_nil)))) pa_nil))) (pe_slice sl_list (pv 4) (po_some (pe_op op_add (pv 5) pe_int)) po_none)) pa_nil)))) pss_nil)
          (pss_cons (ps_if (pt_cmpR op_eq (pv 6) pe_int (nomark _)) (pss_cons (ps_set (i := 8) sc__law_bent.nd rfl (Or.inl rfl) (pe_ix (show IxR _ (rIxL K) from ix_list) (pe_lst (pa_cons (pe_slice sl_list (pv 8) po_none (po_some pe_int)) (pa_cons (pe_op op_cat (pv 8) (pe_lst (pa_cons pe_int pa_nil))) (pa_cons (pv 8) (pa_cons (pe_lst pa_nil) (pa_cons (pe_lst (pa_cons (pe_callTy call_tuple_of (by rfl) T.n_tuple (by decide +kernel) (pa_cons (pv 8) pa_nil)) pa_nil)) pa_nil)))))) (pe_call (G__law_draw T) (hr.mono (by decide)) rfl T.g__law_draw T.F__law_draw.kp T.b__law_draw .nil pass0 (pa_cons (pv 0) (pa_cons pe_int pa_nil))) (fun _ _ => rfl)))
          (pss_one (ps_ret (pe_callTy call_tuple_of (by rfl) T.n_tuple (by decide +kernel) (pa_cons (pe_op op_cat (pe_op op_cat (pe_slice sl_list (pv 4) po_none (po_some (pv 5))) (pe_lst (pa_cons (pe_callTy call_tuple_of (by rfl) T.n_tuple (by decide +kernel) (pa_cons (pv 8) pa_nil)) pa_nil))) (pe_slice sl_list (pv 4) (po_some (pe_op op_add (pv 5) pe_int)) po_none)) pa_nil))))) pss_nil)
          (pss_cons (ps_if (pt_cmpR op_eq (pv 6) pe_int (nomark _)) (pss_one (ps_ret (pe_callTy call_tuple_of (by rfl) T.n_tuple (by decide +kernel) (pa_cons (pe_op op_cat (pe_op op_cat (pe_slice sl_list (pv 4) po_none (po_some (pv 5))) (pe_lst (pa_cons (pv 8) pa_nil))) (pe_slice sl_list (pv 4) (po_some (pe_op op_add (pv 5) pe_int)) po_none)) pa_nil)))) pss_nil)
          (pss_cons (ps_asg (pe_call (G__law_odd T) (hr.mono (by decide)) rfl T.g__law_odd T.F__law_odd.kp T.b__law_odd .nil pass0 (pa_cons (pv 0) (pa_cons (pv 2) (pa_cons (pv 3) pa_nil)))) (pg_sub (pv 8) (pv 7) set_list))
          (pss_one (ps_ret (pe_callTy call_tuple_of (by rfl) T.n_tuple (by decide +kernel) (pa_cons (pe_op op_cat (pe_op op_cat (pe_slice sl_list (pv 4) po_none (po_some (pv 5))) (pe_lst (pa_cons (pe_callTy call_tuple_of (by rfl) T.n_tuple (by decide +kernel) (pa_cons (pv 8) pa_nil)) pa_nil))) (pe_slice sl_list (pv 4) (po_some (pe_op op_add (pv 5) pe_int)) po_none)) pa_nil))))))))))))))))))), ?_⟩
    try dsimp only [cxOf, Cx.nox]
    obtain ⟨ga, gvs, rfl, nga, hga, sg⟩ := rg.tup_inv
    have lg := sg.len
    rw [List.length_map] at lg
    have gl := hg.len
    (walk_at "zs")
    refine ⟨ga, gvs, rfl, .inr (SqT.of hga), fun pr npr => ?_⟩
    have g1 := Go.new (o := .lst gvs) hd npr
    have hd1 := g1.2 hd
    have r1 : R A.cl h (upd H pr (.lst gvs)) (.ref pr) (.lst (gs.map dG)) := .lst (hd.ne npr) upd_same (g1.rs sg)
    have e1 : (upd H pr (.lst gvs)) pr = some (.lst gvs) := upd_same
    generalize upd H pr (.lst gvs) = H1 at g1 hd1 r1 e1 ⊢
    (walk_at "zs")
    refine ⟨_, _, rfl, .inl (.inl (.inl e1)), ?_⟩
    (walk_at "zs")
    refine ⟨h, c, _, rfl, hd1, by omega, by omega, fun at_ H2 at0 at1 g2 => ?_⟩
    have hd2 := g2.2 hd1
    (walk_at "zs")
    refine ⟨h, c, _, rfl, hd2, by decide, by decide, fun ki H3 ki0 ki1 g3 => ?_⟩
    have hd3 := g3.2 hd2
    have g13 := g2.trans g3
    have r3 := g13.r r1
    have npr' : pr ≠ h := hd.ne npr
    have e3 := g13.1 _ _ npr' e1
    have x3 := sxH hd3
    (walk_at "zs")
    refine z_ite (fun k0 => ?_) (fun k0 => ?_)
    · (walk_at "zs")
      refine ⟨pr, gvs, rfl, .inl (SqL.of e3), fun p4 np4 => ?_⟩
      have g4 := Go.new (o := .lst gvs) hd3 np4
      have hd4 := g4.2 hd3
      have x4 := x3.go hd3 g4
      have r4 : R A.cl h (upd H3 p4 (.lst gvs)) (.ref p4) (.lst (gs.map dG)) := .lst (hd3.ne np4) upd_same (((g1.trans g13).trans g4).rs sg)
      have e4 := g4.1 _ _ npr' e3
      generalize upd H3 p4 (.lst gvs) = H4 at g4 hd4 x4 r4 e4 ⊢
      (walk_at "zs")
      refine z_newT (cl := A.cl) hd4 .nil fun p5 H5 g5 _ r5 => ?_
      have hd5 := g5.2 hd4
      (walk_at "zs")
      refine z_newD (cl := A.cl) hd5 fun p6 H6 g6 _ r6 => ?_
      have hd6 := g6.2 hd5
      (walk_at "zs")
      refine ⟨h, c, _, rfl, hd6, by decide, by decide, fun k H7 k70 k71 g7 => ?_⟩
      have hd7 := g7.2 hd6
      refine ⟨h, c, _, _, rfl, hd7, sxH hd7, k70, k71, fun v8 d8 H8 g8 r8 _ => ?_⟩
      have hd8 := g8.2 hd7
      have g48 := ((g5.trans g6).trans g7).trans g8
      (walk_at "zs")
      refine ⟨pr, gvs, rfl, SqL.of (g48.1 _ _ npr' e4), fun p9 np9 => ?_⟩
      have g9 := Go.new (o := .lst gvs.reverse) hd8 np9
      have hd9 := g9.2 hd8
      have r9 : R A.cl h (upd H8 p9 (.lst gvs.reverse)) (.ref p9) (.lst (gs.map dG).reverse) := .lst (hd8.ne np9) upd_same (RSs.rev (((g1.trans g13).trans ((g4.trans g48).trans g9)).rs sg))
      generalize upd H8 p9 (.lst gvs.reverse) = H9 at g9 hd9 r9 ⊢
      (walk_at "zs")
      obtain ⟨_, ys9, e9, _, h9, s9⟩ := r9.lst_inv
      cases e9
      refine ⟨p9, ys9, rfl, .inl ⟨SqL.of h9, fun p10 np10 => ?_⟩⟩
      have g10 := Go.new (o := .tup ys9) hd9 np10
      have hd10 := g10.2 hd9
      have r10 : R A.cl h (upd H9 p10 (.tup ys9)) (.ref p10) (.tup (gs.map dG).reverse) := .tup (hd9.ne np10) upd_same (g10.rs s9)
      generalize upd H9 p10 (.tup ys9) = H10 at g10 hd10 r10 ⊢
      have g810 := g9.trans g10
      (walk_at "zs")
      refine z_newL hd10 (.cons ((g48.trans g810).r r4) (.cons .non (.cons ((((g6.trans g7).trans g8).trans g810).r r5) (.cons (((g7.trans g8).trans g810).r r6) (.cons (.str _) (.cons (.int _) (.cons (.bl _)
        (.cons ((((g1.trans g13).trans g4).trans (g48.trans g810)).r rh) (.cons (g810.r r8) (.cons r10 .nil)))))))))) fun p11 H11 g11 _ r11 => ?_
      have hd11 := g11.2 hd10
      obtain ⟨_, xs, e11, n11, h11, s11⟩ := r11.lst_inv
      cases e11
      have l11 := s11.len
      (walk_at "zs")
      refine ⟨h, c, p11, xs, rfl, hd11, n11, h11, by rw [l11]; simp, by rw [l11]; simp, fun v i H12 hv12 g12 => ?_⟩
      obtain ⟨dv, _, rv⟩ := s11.atV hv12
      exact q v dv H12 (((((g1.trans g13).trans g4).trans (g48.trans g810)).trans g11).trans g12) (g12.r rv)
    (walk_at "zs")
    refine z_ite (fun k1 => ?_) (fun k1 => ?_)
    · (walk_at "zs")
      refine z_cutS hd3 x3 r3 fun p4 H4 es4 g4 x4 _ l4 r4 => ?_
      have hd4 := g4.2 hd3
      (walk_at "zs")
      refine ⟨h, c, _, f, hv, hD, rfl, hd4, x4, (g1.trans (g13.trans g4)).r rh, fun v5 d5 H5 g5 r5 => ?_⟩
      have hd5 := g5.2 hd4
      have x5 := x4.go hd4 g5
      (walk_at "zs")
      refine z_newLS hd5 x5 (.cons r5 .nil) fun p6 H6 g6 x6 _ r6 => ?_
      have hd6 := g6.2 hd5
      refine z_catSS hd6 x6 (RS.go x4 (g5.trans g6) r4) r6 (by rw [List.length_map] at l4; simp; omega) fun p7 H7 g7 x7 _ r7 => ?_
      have hd7 := g7.2 hd6
      have g37 := ((g4.trans g5).trans g6).trans g7
      (walk_at "zs")
      refine z_cutS hd7 x7 (g37.r r3) fun p8 H8 es8 g8 x8 _ l8 r8 => ?_
      have hd8 := g8.2 hd7
      refine z_catSS hd8 x8 (g8.r r7) r8 (by rw [List.length_map] at l4 l8; simp; omega) fun p9 H9 g9 x9 _ r9 => ?_
      have hd9 := g9.2 hd8
      (walk_at "zs")
      refine z_tupS hd9 x9 r9 fun p10 H10 g10 x10 _ r10 => ?_
      (walk_at "zs")
      exact q _ _ H10 ((((g1.trans g13).trans g37).trans (g8.trans g9)).trans g10) r10
    · (walk_at "zs")
      have rg3 : R A.cl h H3 (.ref ga) (.tup (gs.map dG)) := (g1.trans g13).r (.tup nga hga sg)
      have g03 := g1.trans g13
      have sg3 := g03.rs sg
      refine z_ite (fun k2 => ?_) (fun k2 => ?_)
      · (walk_at "zs")
        refine z_newS (fun p4 H4 s4 _ e4 => ?_)
        have g4 : Go h c H3 H4 := Go.same s4
        have hd4 := g4.2 hd3
        refine z_neL0 (s4 _ _ e3) (g4.rs sg3) e4 ?_
        (walk_at "zs")
        refine z_iteD (fun ne => ?_) (fun em => ?_)
        · have gp : 0 < gs.length := List.length_pos_iff.mpr ne
          (walk_at "zs")
          refine ⟨_, _, rfl, .inl (.inl (.inl (s4 _ _ e3))), ?_⟩
          rw [lg]
          (walk_at "zs")
          refine ⟨h, c, _, rfl, hd4, by omega, by omega, fun ax H5 ax0 ax1 g5 => ?_⟩
          have hd5 := g5.2 hd4
          have g35 := g4.trans g5
          have x5 := sxH hd5
          (walk_at "zs")
          refine z_cutS hd5 x5 (g35.r r3) fun p6 H6 es6 g6 x6 _ l6 r6 => ?_
          have hd6 := g6.2 hd5
          have g36 := g35.trans g6
          (walk_at "zs")
          refine z_ixA (g36.1 _ _ npr' e3) ax0 (by rw [lg]; exact ax1) fun xv hxv => ?_
          obtain ⟨xi, hxi⟩ := List.getElem?_of_mem hxv
          obtain ⟨xd, _, rxd⟩ := (g36.rs sg3).atV hxi
          (walk_at "zs")
          refine z_newLS hd6 x6 (.cons rxd .nil) fun p7 H7 g7 x7 _ r7 => ?_
          have hd7 := g7.2 hd6
          refine z_catSS hd7 x7 (g7.r r6) r7 (by rw [List.length_map] at l6; simp; omega) fun p8 H8 g8 x8 _ r8 => ?_
          have hd8 := g8.2 hd7
          have g38 := (g36.trans g7).trans g8
          (walk_at "zs")
          refine z_cutS hd8 x8 (g38.r r3) fun p9 H9 es9 g9 x9 _ l9 r9 => ?_
          have hd9 := g9.2 hd8
          refine z_catSS hd9 x9 (g9.r r8) r9 (by rw [List.length_map] at l6 l9; simp; omega) fun p10 H10 g10 x10 _ r10 => ?_
          have hd10 := g10.2 hd9
          (walk_at "zs")
          refine z_tupS hd10 x10 r10 fun p11 H11 g11 _ _ r11 => ?_
          (walk_at "zs")
          exact q _ _ H11 ((((g03.trans g38).trans g9).trans g10).trans g11) r11
        · (walk_at "zs")
          refine z_newS (fun p5 H5 s5 _ e5 => ?_)
          have g5 : Go h c H4 H5 := Go.same s5
          refine z_eqL0 (s5 _ _ (s4 _ _ e3)) ((g4.trans g5).rs sg3) e5 ?_
          rw [decide_eq_true em]
          (walk_at "zs")
          exact q _ _ H5 ((g03.trans g4).trans g5) ((g4.trans g5).r rg3)
      · (walk_at "zs")
        refine z_newS (fun p4 H4 s4 _ e4 => ?_)
        have g4 : Go h c H3 H4 := Go.same s4
        have hd4 := g4.2 hd3
        refine z_eqL0 (s4 _ _ e3) (g4.rs sg3) e4 ?_
        (walk_at "zs")
        refine z_ite (fun em => ?_) (fun ne => ?_)
        · (walk_at "zs")
          exact q _ _ H4 (g03.trans g4) (g4.r rg3)
        have gp : 0 < gs.length := List.length_pos_iff.mpr ne
        (walk_at "zs")
        refine ⟨_, _, rfl, .inl (.inl (.inl (s4 _ _ e3))), ?_⟩
        rw [lg]
        (walk_at "zs")
        refine ⟨h, c, _, rfl, hd4, by omega, by omega, fun ax H5 ax0 ax1 g5 => ?_⟩
        have hd5 := g5.2 hd4
        (walk_at "zs")
        refine ⟨h, c, _, rfl, hd5, by decide, by decide, fun pl H6 pl0 pl1 g6 => ?_⟩
        have hd6 := g6.2 hd5
        have g36 := (g4.trans g5).trans g6
        have e6 := g36.1 _ _ npr' e3
        have hi : ax.toNat < gvs.length := by omega
        have aax : atI gvs ax = some gvs[ax.toNat] := by
          have z := atI_nat (xs := gvs) (j := ax.toNat) (v := gvs[ax.toNat]) (List.getElem?_eq_getElem hi)
          rwa [Int.toNat_of_nonneg ax0] at z
        obtain ⟨g, t, hgg, ext, nt, et⟩ := rs_at3 (g36.rs sg3) (List.getElem?_eq_getElem hi)
        rw [ext] at aax
        have rt : R A.cl h H6 (.ref t) (dG g) := .tup nt et (.cons (.int _) (.cons (.int _) (.cons (.int _) .nil)))
        (walk_at "zs")
        refine z_ixL (SqL.of e6) aax ?_
        (walk_at "zs")
        refine ⟨h, .ref t, dG g, f, rfl, rt, ?_⟩
        rw [okG_isG4 (hg.el g (List.mem_of_getElem? hgg))]
        (walk_at "zs")
        refine z_ixL (SqL.of e6) aax ?_
        refine ⟨t, vsG g, rfl, .inr (SqT.of et), fun pw npw => ?_⟩
        have g7 := Go.new (o := .lst (vsG g)) hd6 npw
        have hd7 := g7.2 hd6
        have e7 : (upd H6 pw (.lst (vsG g))) pw = some (.lst [.int g.1, .int g.2.1, .int g.2.2]) := upd_same
        have x7 := sxH hd7
        have g37 := g36.trans g7
        have r7 : R A.cl h (upd H6 pw (.lst (vsG g))) (.ref pw) (.lst [.int g.1, .int g.2.1, .int g.2.2]) := .lst (hd6.ne npw) upd_same (.cons (.int _) (.cons (.int _) (.cons (.int _) .nil)))
        have lgs : (gs.map dG).length = gs.length := List.length_map ..
        (walk_at "zs")
        refine z_ite (fun k3 => ?_) (fun k3 => ?_)
        · (walk_at "zs")
          refine z_cutS hd7 x7 (g37.r r3) fun p8 H8 es8 g8 x8 _ l8 r8 => ?_
          have hd8 := g8.2 hd7
          have e8 := g8.1 _ _ (hd6.ne npw) e7
          (walk_at "zs")
          refine z_ixL (SqL.of e8) rfl ?_
          (walk_at "zs")
          refine z_ixL (SqL.of e8) rfl ?_
          (walk_at "zs")
          refine z_ixL (SqL.of e8) rfl ?_
          (walk_at "zs")
          refine z_newTS (cl := A.cl) hd8 x8 (.cons (.int _) (.cons (.int _) (.cons (.int _) .nil))) fun p9 H9 g9 x9 _ r9 => ?_
          have hd9 := g9.2 hd8
          (walk_at "zs")
          refine z_newLS hd9 x9 (.cons r9 .nil) fun p10 H10 g10 x10 _ r10 => ?_
          have hd10 := g10.2 hd9
          refine z_catSS hd10 x10 ((g9.trans g10).r r8) r10 (by simp; omega) fun p11 H11 g11 x11 _ r11 => ?_
          have hd11 := g11.2 hd10
          have g311 := (((g37.trans g8).trans g9).trans g10).trans g11
          (walk_at "zs")
          refine z_cutS hd11 x11 (g311.r r3) fun p12 H12 es12 g12 x12 _ l12 r12 => ?_
          have hd12 := g12.2 hd11
          refine z_catSS hd12 x12 (g12.r r11) r12 (by simp; omega) fun p13 H13 g13' x13 _ r13 => ?_
          have hd13 := g13'.2 hd12
          (walk_at "zs")
          refine z_tupS hd13 x13 r13 fun p14 H14 g14 _ _ r14 => ?_
          (walk_at "zs")
          exact q _ _ H14 ((((g03.trans g311).trans g12).trans g13').trans g14) r14
        · (walk_at "zs")
          refine z_ite (fun k4 => ?_) (fun k4 => ?_)
          · (walk_at "zs")
            refine z_cutS hd7 x7 r7 fun p8 H8 es8 g8 x8 _ l8 r8 => ?_
            have hd8 := g8.2 hd7
            (walk_at "zs")
            refine z_newLS (cl := A.cl) hd8 x8 (.cons (.int _) .nil) fun p9 H9 g9 x9 _ r9 => ?_
            have hd9 := g9.2 hd8
            refine z_catSS hd9 x9 ((g8.trans g9).r r7) r9 (Nat.le_of_ble_eq_true rfl) fun p10 H10 g10 x10 _ r10 => ?_
            have hd10 := g10.2 hd9
            (walk_at "zs")
            refine z_newLS (cl := A.cl) hd10 x10 .nil fun p11 H11 g11 x11 _ r11 => ?_
            have hd11 := g11.2 hd10
            have g711 := ((g8.trans g9).trans g10).trans g11
            have e11 := g711.1 _ _ (hd6.ne npw) e7
            (walk_at "zs")
            refine ⟨pw, _, rfl, .inl ⟨SqL.of e11, fun p12 np12 => ?_⟩⟩
            have g12 := Go.new (o := .tup [.int g.1, .int g.2.1, .int g.2.2]) hd11 np12
            have hd12 := g12.2 hd11
            have r12 : R A.cl h (upd H11 p12 (.tup [.int g.1, .int g.2.1, .int g.2.2])) (.ref p12) (.tup [.int g.1, .int g.2.1, .int g.2.2]) := .tup (hd11.ne np12) upd_same (.cons (.int _) (.cons (.int _) (.cons (.int _) .nil)))
            generalize upd H11 p12 (.tup [.int g.1, .int g.2.1, .int g.2.2]) = H12 at g12 hd12 r12 ⊢
            (walk_at "zs")
            refine z_newLS hd12 (sxH hd12) (.cons r12 .nil) fun p13 H13 g13' x13 _ r13 => ?_
            have hd13 := g13'.2 hd12
            (walk_at "zs")
            refine z_newLS hd13 x13 (.cons ((((g9.trans g10).trans g11).trans (g12.trans g13')).r r8) (.cons ((g11.trans (g12.trans g13')).r r10) (.cons ((g711.trans (g12.trans g13')).r r7) (.cons ((g12.trans g13').r r11) (.cons r13 .nil))))) fun p14 H14 g14 x14 _ r14 => ?_
            have hd14 := g14.2 hd13
            obtain ⟨_, xs14, e14, n14, h14, s14⟩ := r14.lst_inv
            cases e14
            (walk_at "zs")
            refine ⟨h, c, _, rfl, hd14, by decide, by decide, fun r15 H15 r150 r151 g15 => ?_⟩
            have hd15 := g15.2 hd14
            have l14 := s14.len
            refine z_ixA (g15.1 _ _ n14 h14) r150 (by rw [l14]; exact r151) fun v15 hv15 => ?_
            obtain ⟨i15, hi15⟩ := List.getElem?_of_mem hv15
            obtain ⟨d15, hd15', rv15⟩ := s14.atV hi15
            obtain ⟨ds15, rfl⟩ : ∃ ds, d15 = .lst ds := by
              have m := List.mem_of_getElem? hd15'
              simp only [List.mem_cons, List.not_mem_nil, or_false] at m
              rcases m with rfl | rfl | rfl | rfl | rfl <;> exact ⟨_, rfl⟩
            have rv := g15.r rv15
            have g715 := ((g711.trans (g12.trans g13')).trans g14).trans g15
            have g315 := g37.trans g715
            have x15 := sxH hd15
            (walk_at "zs")
            refine z_cutS hd15 x15 (g315.r r3) fun p16 H16 es16 g16 x16 _ l16 r16 => ?_
            have hd16 := g16.2 hd15
            obtain ⟨vp, vxs, rfl, nvp, hvp, svp⟩ := (g16.r rv).lst_inv
            (walk_at "zs")
            refine ⟨vp, vxs, rfl, .inl ⟨SqL.of hvp, fun p17 np17 => ?_⟩⟩
            have g17 := Go.new (o := .tup vxs) hd16 np17
            have hd17 := g17.2 hd16
            have r17 : R A.cl h (upd H16 p17 (.tup vxs)) (.ref p17) (.tup ds15) := .tup (hd16.ne np17) upd_same (g17.rs svp)
            generalize upd H16 p17 (.tup vxs) = H17 at g17 hd17 r17 ⊢
            (walk_at "zs")
            refine z_newLS hd17 (sxH hd17) (.cons r17 .nil) fun p18 H18 g18 x18 _ r18 => ?_
            have hd18 := g18.2 hd17
            refine z_catSS hd18 x18 ((g17.trans g18).r r16) r18 (by simp; omega) fun p19 H19 g19 x19 _ r19 => ?_
            have hd19 := g19.2 hd18
            have g319 := ((g315.trans g16).trans (g17.trans g18)).trans g19
            (walk_at "zs")
            refine z_cutS hd19 x19 (g319.r r3) fun p20 H20 es20 g20 x20 _ l20 r20 => ?_
            have hd20 := g20.2 hd19
            refine z_catSS hd20 x20 (g20.r r19) r20 (by simp; omega) fun p21 H21 g21 x21 _ r21 => ?_
            have hd21 := g21.2 hd20
            (walk_at "zs")
            refine z_tupS hd21 x21 r21 fun p22 H22 g22 _ _ r22 => ?_
            (walk_at "zs")
            exact q _ _ H22 ((((g03.trans g319).trans g20).trans g21).trans g22) r22
          · (walk_at "zs")
            refine z_ite (fun k5 => ?_) (fun k5 => ?_)
            · (walk_at "zs")
              refine z_cutS hd7 x7 (g37.r r3) fun p8 H8 es8 g8 x8 _ l8 r8 => ?_
              have hd8 := g8.2 hd7
              (walk_at "zs")
              refine z_newLS hd8 x8 (.cons (g8.r r7) .nil) fun p10 H10 g10 x10 _ r10 => ?_
              have hd10 := g10.2 hd8
              refine z_catSS hd10 x10 (g10.r r8) r10 (by simp; omega) fun p11 H11 g11 x11 _ r11 => ?_
              have hd11 := g11.2 hd10
              have g311 := ((g37.trans g8).trans g10).trans g11
              (walk_at "zs")
              refine z_cutS hd11 x11 (g311.r r3) fun p12 H12 es12 g12 x12 _ l12 r12 => ?_
              have hd12 := g12.2 hd11
              refine z_catSS hd12 x12 (g12.r r11) r12 (by simp; omega) fun p13 H13 g13' x13 _ r13 => ?_
              have hd13 := g13'.2 hd12
              (walk_at "zs")
              refine z_tupS hd13 x13 r13 fun p14 H14 g14 _ _ r14 => ?_
              (walk_at "zs")
              exact q _ _ H14 ((((g03.trans g311).trans g12).trans g13').trans g14) r14
            · (walk_at "zs")
              have npw2 : ∀ a o, H6 a = some o → a ≠ pw := fun a o e => ne_of_none e npw
              refine ⟨h, c, (fun a => a ≠ h ∧ a ≠ pw), f, hv, hD, rfl, hd7, ⟨fun a s => s.1, fun a n => ⟨hd7.ne n, fun z => by rw [z, upd_same] at n; cases n⟩⟩,
                RS.to (fun a o s e => ⟨⟨s, npw2 a o e⟩, by rw [upd_ne (npw2 a o e)]; exact e⟩) ((g03.trans g36).r rh), fun v8 d8 H8 g8 r8 => ?_⟩
              have hd8 := g8.2 hd7
              have e8 := g8.1 _ _ (hd6.ne npw) e7
              obtain ⟨j, hj⟩ : ∃ j, ixN 3 pl = some j := by
                obtain rfl | rfl | rfl : pl = 0 ∨ pl = 1 ∨ pl = 2 := by omega
                all_goals exact ⟨_, rfl⟩
              (walk_at "zs")
              refine z_setL e8 hj ?_
              have g69 : Go h c H6 (upd H8 pw (.lst ([V.int g.1, V.int g.2.1, V.int g.2.2].set j v8))) := (g7.trans g8).mut hd6 npw
              have hd9 := g69.2 hd6
              have v9 : R A.cl h (upd H8 pw (.lst ([V.int g.1, V.int g.2.1, V.int g.2.2].set j v8))) v8 d8 := RS.to (fun a o s e => ⟨s.1, by rw [upd_ne s.2]; exact e⟩) r8
              have r9 : R A.cl h (upd H8 pw (.lst ([V.int g.1, V.int g.2.1, V.int g.2.2].set j v8))) (.ref pw) (.lst ([Dt.int g.1, .int g.2.1, .int g.2.2].set j d8)) :=
                .lst (hd6.ne npw) upd_same (RSs.put j (.cons (.int _) (.cons (.int _) (.cons (.int _) .nil))) v9)
              have g39 := g36.trans g69
              generalize upd H8 pw (.lst ([V.int g.1, V.int g.2.1, V.int g.2.2].set j v8)) = H9 at g69 hd9 r9 g39 ⊢
              have x9 := sxH hd9
              (walk_at "zs")
              refine z_cutS hd9 x9 (g39.r r3) fun p16 H16 es16 g16 x16 _ l16 r16 => ?_
              have hd16 := g16.2 hd9
              obtain ⟨vp, vxs, evp, nvp, hvp, svp⟩ := (g16.r r9).lst_inv
              cases evp
              (walk_at "zs")
              refine ⟨pw, vxs, rfl, .inl ⟨SqL.of hvp, fun p17 np17 => ?_⟩⟩
              have g17 := Go.new (o := .tup vxs) hd16 np17
              have hd17 := g17.2 hd16
              have r17 : R A.cl h (upd H16 p17 (.tup vxs)) (.ref p17) (.tup ([Dt.int g.1, .int g.2.1, .int g.2.2].set j d8)) := .tup (hd16.ne np17) upd_same (g17.rs svp)
              generalize upd H16 p17 (.tup vxs) = H17 at g17 hd17 r17 ⊢
              (walk_at "zs")
              refine z_newLS hd17 (sxH hd17) (.cons r17 .nil) fun p18 H18 g18 x18 _ r18 => ?_
              have hd18 := g18.2 hd17
              refine z_catSS hd18 x18 ((g17.trans g18).r r16) r18 (by simp; omega) fun p19 H19 g19 x19 _ r19 => ?_
              have hd19 := g19.2 hd18
              have g319 := ((g39.trans g16).trans (g17.trans g18)).trans g19
              (walk_at "zs")
              refine z_cutS hd19 x19 (g319.r r3) fun p20 H20 es20 g20 x20 _ l20 r20 => ?_
              have hd20 := g20.2 hd19
              refine z_catSS hd20 x20 (g20.r r19) r20 (by simp; omega) fun p21 H21 g21 x21 _ r21 => ?_
              have hd21 := g21.2 hd20
              (walk_at "zs")
              refine z_tupS hd21 x21 r21 fun p22 H22 g22 _ _ r22 => ?_
              (walk_at "zs")
              exact q _ _ H22 ((((g03.trans g319).trans g20).trans g21).trans g22) r22
theorem sc_law : FnScope ["script", "hand", "turn", "most", "rows", "floors", "room", "lift", "groups", "house", "again", "kind", "bad", "odd", "k"] ["script"] (defScope s_law) := ⟨rfl, rfl, rfl, by decide +kernel, rfl, by decide +kernel, by decide +kernel⟩
def sp_law (K : PySem.W.Frag) (A : Ad) : Sp := fun vs H Q E =>
  spLaw K vs H Q E
theorem G_law (T : Txt K mg A) : FnOk P w K mg base CX0 9 A.a_law A.d_law ["script"] (sp_law K A) := by
  refine T.F_law.ok sc_law (fun vs H Q E h => ?_) (fun cdv A' outer s H vs Q E hr h => ?_)
  · obtain ⟨_, _, rfl, _⟩ := h; rfl
  · obtain ⟨a, ns, rfl, hS, hl, k⟩ := h
    refine ⟨_, ((pss_cons (ps_set (i := 1) sc_law.nd rfl (Or.inl rfl) (pe_call (G__law_hand T) (hr.mono (by decide)) rfl T.g__law_hand T.F__law_hand.kp T.b__law_hand .nil pass0 (pa_cons (pv 0) pa_nil)))
          (pss_cons (ps_for PassesOwn.never rfl (pi_range1 (by rfl) T.n_range (pa_cons pe_int pa_nil)) (pg_name (i := 2) sc_law.nd rfl (Or.inl rfl))
          (pss_cons (ps_asg (pe_call (G__law_world T) (hr.mono (by decide)) rfl T.g__law_world T.F__law_world.kp T.b__law_world .nil pass0 (pa_cons (pv 1) pa_nil)) (pg_tup (by rfl) (pgs_cons (pg_name (i := 5) sc_law.nd rfl (Or.inl rfl)) (pgs_cons (pg_name (i := 6) sc_law.nd rfl (Or.inl rfl)) (pgs_cons (pg_name (i := 7) sc_law.nd rfl (Or.inl rfl)) (pgs_cons (pg_name (i := 8) sc_law.nd rfl (Or.inl rfl)) pgs_nil))))))
          (pss_cons (ps_set (i := 9) sc_law.nd rfl (Or.inl rfl) (pe_make T.mk_House (G_House___init__ T) (hr.mono (by decide)) rfl T.g_House T.b_House___init__ .nil passL (pa_cons (pv 5) (pa_cons (pv 6) pa_nil))))
          (pss_cons (ps_if (pt_not (pt_val (pe_call (G__law_right T) (hr.mono (by decide)) rfl T.g__law_right T.F__law_right.kp T.b__law_right .nil pass0 (pa_cons (pv 9) (pa_cons pe_bl (pa_cons (pv 7) (pa_cons (pv 8) (pa_cons (pv 5) pa_nil)))))))) (pss_one (ps_ret pe_bl)) pss_nil)
          (pss_one (ps_for PassesOwn.never rfl (pi_range1 (by rfl) T.n_range (pa_cons pe_int pa_nil)) (pg_name (i := 10) sc_law.nd rfl (Or.inl rfl))
          (pss_cons (ps_set (i := 11) sc_law.nd rfl (Or.inl rfl) (pe_call (G__law_draw T) (hr.mono (by decide)) rfl T.g__law_draw T.F__law_draw.kp T.b__law_draw .nil pass0 (pa_cons (pv 1) (pa_cons pe_int pa_nil))))
          (pss_one (ps_if (pt_cmpR op_eq (pv 11) pe_int (nomark _)) (pss_cons (ps_set (i := 12) sc_law.nd rfl (Or.inl rfl) (pe_call (G__law_some T) (hr.mono (by decide)) rfl T.g__law_some T.F__law_some.kp T.b__law_some .nil pass0 (pa_cons (pv 1) (pa_cons (pe_lst (pa_cons pe_non (pa_cons pe_int (pa_cons (pe_tup (pa_cons (pv 5) (pa_cons (pv 6) pa_nil))) (pa_cons pe_str (pa_cons (pe_lst pa_nil) (pa_cons (pe_call (G__law_deep T) (hr.mono (by decide)) rfl T.g__law_deep T.F__law_deep.kp T.b__law_deep .nil pass0 (pa_cons pe_int pa_nil)) (pa_cons (pe_make T.mk_Standing (G_Standing___init__ T) (hr.mono (by decide)) rfl T.g_Standing T.b_Standing___init__ .nil passL (pa_cons (pv 9) (pa_cons pe_int (pa_cons (pe_tup pa_nil) pa_nil)))) pa_nil)))))))) pa_nil))))
          (pss_cons (ps_set (i := 13) sc_law.nd rfl (Or.inl rfl) (pe_ix (show IxR _ (rIxL K) from ix_list) (pe_lst (pa_cons (pv 7) (pa_cons (pe_un un_neg pe_int) (pa_cons (pv 5) pa_nil)))) (pe_call (G__law_draw T) (hr.mono (by decide)) rfl T.g__law_draw T.F__law_draw.kp T.b__law_draw .nil pass0 (pa_cons (pv 1) (pa_cons pe_int pa_nil))) (fun _ _ => rfl)))
          (pss_one (ps_if (pt_not (pt_val (pe_call (G__law_right T) (hr.mono (by decide)) rfl T.g__law_right T.F__law_right.kp T.b__law_right .nil pass0 (pa_cons (pv 12) (pa_cons pe_bl (pa_cons (pv 13) (pa_cons (pe_call (G__law_bent T) (hr.mono (by decide)) rfl T.g__law_bent T.F__law_bent.kp T.b__law_bent .nil pass0 (pa_cons (pv 1) (pa_cons (pv 8) (pa_cons (pv 5) (pa_cons (pv 9) pa_nil))))) (pa_cons (pv 5) pa_nil)))))))) (pss_one (ps_ret pe_bl)) pss_nil)))) (pss_one (ps_if (pt_cmpR op_eq (pv 11) pe_int (nomark _)) (pss_cons (ps_set (i := 13) sc_law.nd rfl (Or.inl rfl) (pe_call (G__law_odd T) (hr.mono (by decide)) rfl T.g__law_odd T.F__law_odd.kp T.b__law_odd .nil pass0 (pa_cons (pv 1) (pa_cons (pv 5) (pa_cons (pv 9) pa_nil)))))
          (pss_one (ps_if (pt_not (pt_val (pe_call (G__law_right T) (hr.mono (by decide)) rfl T.g__law_right T.F__law_right.kp T.b__law_right .nil pass0 (pa_cons (pv 9) (pa_cons pe_bl (pa_cons (pv 13) (pa_cons (pe_call (G__law_bent T) (hr.mono (by decide)) rfl T.g__law_bent T.F__law_bent.kp T.b__law_bent .nil pass0 (pa_cons (pv 1) (pa_cons (pv 8) (pa_cons (pv 5) (pa_cons (pv 9) pa_nil))))) (pa_cons (pv 5) pa_nil)))))))) (pss_one (ps_ret pe_bl)) pss_nil))) (pss_one (ps_if (pt_not (pt_val (pe_call (G__law_right T) (hr.mono (by decide)) rfl T.g__law_right T.F__law_right.kp T.b__law_right .nil pass0 (pa_cons (pv 9) (pa_cons pe_bl (pa_cons (pv 7) (pa_cons (pe_call (G__law_bent T) (hr.mono (by decide)) rfl T.g__law_bent T.F__law_bent.kp T.b__law_bent .nil pass0 (pa_cons (pv 1) (pa_cons (pv 8) (pa_cons (pv 5) (pa_cons (pv 9) pa_nil))))) (pa_cons (pv 5) pa_nil)))))))) (pss_one (ps_ret pe_bl)) pss_nil)))))))))))))
          (pss_cons (ps_set (i := 3) sc_law.nd rfl (Or.inl rfl) (pe_op op_add pe_int (pe_call (G__law_draw T) (hr.mono (by decide)) rfl T.g__law_draw T.F__law_draw.kp T.b__law_draw .nil pass0 (pa_cons (pv 1) (pa_cons pe_int pa_nil)))))
          (pss_cons (ps_set (i := 4) sc_law.nd rfl (Or.inl rfl) (pe_callTy call_tuple_of (by rfl) T.n_tuple (by decide +kernel) (pa_cons (pe_lc (own := [("k", 14)]) (g := gName 14) rfl sc_law.nd (pi_range1 (by rfl) T.n_range (pa_cons (pv 3) pa_nil)) (blkOk_by (own := [("k", 14)]) (N := ["script", "hand", "turn", "most", "rows", "floors", "room", "lift", "groups", "house", "again", "kind", "bad", "odd", "k"]) (sc := defScope s_law) (by decide +kernel)) (fun _ _ _ _ _ => (pg_name (i := 14) sc_law.nd rfl (Or.inl rfl))) (fun _ _ _ _ _ => pts_nil) (fun _ _ _ _ _ => (pe_tup (pa_cons (pe_op op_fdivN (pv 14) pe_int) (pa_cons (pe_op op_sub (pv 14) (pe_op op_mul (pe_op op_fdivN (pv 14) pe_int) pe_int)) (pa_cons (pe_op op_pow pe_int pe_int) pa_nil)))))) pa_nil)))
          (pss_one (ps_ret (pe_call (G__law_right T) (hr.mono (by decide)) rfl T.g__law_right T.F__law_right.kp T.b__law_right .nil pass0 (pa_cons (pe_make T.mk_House (G_House___init__ T) (hr.mono (by decide)) rfl T.g_House T.b_House___init__ .nil passL (pa_cons pe_int (pa_cons pe_int pa_nil))) (pa_cons pe_bl (pa_cons pe_int (pa_cons (pv 4) (pa_cons pe_int pa_nil))))))))))))), ?_⟩
    try dsimp only [cxOf, Cx.nox]
    (walk_at "zs")
    refine ⟨a, ns, rfl, hS, hl, fun h c H1 sm hd _ _ => ?_⟩
    (walk_at "zs")
    refine ⟨_, rfl, by decide, by decide, for_range (lo := 0) (n := 5) (fun _ σ HH => (∃ u2 u3 u4 u5 u6 u7 u8 u9 u10 u11 u12 u13 u14, σ = [some (.ref a), some (.ref h), u2, u3, u4, u5, u6, u7, u8, u9, u10, u11, u12, u13, u14]) ∧ Go h c H1 HH) ⟨⟨_, _, _, _, _, _, _, _, _, _, _, _, _, rfl⟩, Go.refl H1⟩ ?_ ?_⟩
    · rintro i σ H2 _ ⟨⟨u2, u3, u4, u5, u6, u7, u8, u9, u10, u11, u12, u13, u14, rfl⟩, g2⟩
      have hd2 := g2.2 hd
      (walk_at "zs")
      refine ⟨h, c, rfl, hd2, fun p f r l gs H3 g3 w3 r3 => ?_⟩
      have hd3 := g3.2 hd2
      obtain ⟨f1, f2, ro1, ro2, l1, l2, hgs⟩ := w3
      have r3' : R A.cl h H3 (.ref p) (.tup [.int f, .int r, .int l, .tup (gs.map dG)]) := r3
      obtain ⟨_, tvs, ep, nta, hta, st⟩ := r3'.tup_inv
      cases ep
      obtain ⟨_, _, _, gv, rfl, q1, q2, q3, rg⟩ := st.four
      cases q1
      cases q2
      cases q3
      have b1 : (Dt.int f).bet 2 40 = true := by
        show (decide (2 ≤ f) && decide (f ≤ 40)) = true
        rw [decide_eq_true f1, decide_eq_true f2]
        rfl
      have b2 : (Dt.int r).bet 1 1000000000000 = true := by
        show (decide (1 ≤ r) && decide (r ≤ 1000000000000)) = true
        rw [decide_eq_true ro1, decide_eq_true ro2]
        rfl
      refine z_gtup hta rfl ?_
      (walk_at "zs")
      refine z_house hd3 (.int _) (.int _) b1 b2 fun xh H4 g4 _ r4 => ?_
      have hd4 := g4.2 hd3
      have r4' : R A.cl h H4 (.ref xh) (.hou f r) := r4
      have rg4 := g4.r rg
      have hoH : true = (Dt.hou f r).isO A.cl A.c_House := by
        show true = decide (A.cl 0 = A.cl 0)
        simp
      (walk_at "zs")
      refine ⟨h, c, .ref xh, .int l, gv, true, f, r, .hou f r, .int l, .tup (gs.map dG), rfl, hd4, r4', hoH, fun _ => rfl, .int _, rg4, fun H5 g5 => ?_⟩
      have hd5 := g5.2 hd4
      have r5 := g5.r r4'
      have rg5 := g5.r rg4
      have g25 := (g3.trans g4).trans g5
      (walk_at "zs")
      refine ⟨_, rfl, by decide, by decide, for_range (lo := 0) (n := 3) (fun _ σ HH => (∃ u2 u3 u4 u10 u11 u12 u13 u14, σ = [some (.ref a), some (.ref h), u2, u3, u4, some (.int f), some (.int r), some (.int l), some gv, some (.ref xh), u10, u11, u12, u13, u14]) ∧ Go h c H5 HH) ⟨⟨_, _, _, _, _, _, _, _, rfl⟩, Go.refl H5⟩ ?_ ?_⟩
      · rintro i σ H6 _ ⟨⟨u2, u3, u4, u10, u11, u12, u13, u14, rfl⟩, g6⟩
        have hd6 := g6.2 hd5
        (walk_at "zs")
        refine ⟨h, c, _, rfl, hd6, by decide, by decide, fun ki H7 ki0 ki1 g7 => ?_⟩
        have hd7 := g7.2 hd6
        have g57 := g6.trans g7
        have r7 := g57.r r5
        have rg7 := g57.r rg5
        (walk_at "zs")
        refine z_ite (fun k0 => ?_) (fun k0 => ?_)
        · (walk_at "zs")
          refine z_newT (cl := A.cl) hd7 (.cons (.int _) (.cons (.int _) .nil)) fun p8 H8 g8 _ r8 => ?_
          have hd8 := g8.2 hd7
          (walk_at "zs")
          refine z_newL (cl := A.cl) hd8 .nil fun p9 H9 g9 _ r9 => ?_
          have hd9 := g9.2 hd8
          (walk_at "zs")
          refine ⟨h, c, _, _, rfl, hd9, sxH hd9, by decide, by decide, fun v10 d10 H10 g10 r10 hT => ?_⟩
          have hd10 := g10.2 hd9
          (walk_at "zs")
          refine z_newT (cl := A.cl) hd10 .nil fun p11 H11 g11 _ r11 => ?_
          have hd11 := g11.2 hd10
          have g711 := ((g8.trans g9).trans g10).trans g11
          (walk_at "zs")
          refine z_stand (gs := []) hd11 (g711.r r7) (.int _) r11 (by decide) (by omega) ⟨Nat.zero_le _, .nil, fun g z => by cases z⟩ fun x12 H12 g12 _ r12 => ?_
          have hd12 := g12.2 hd11
          (walk_at "zs")
          refine z_newL hd12 (.cons .non (.cons (.int _) (.cons ((((g9.trans g10).trans g11).trans g12).r r8) (.cons (.str _) (.cons (((g10.trans g11).trans g12).r r9) (.cons ((g11.trans g12).r r10) (.cons r12 .nil))))))) fun p13 H13 g13 _ r13 => ?_
          have hd13 := g13.2 hd12
          obtain ⟨_, xs, e13, n13, h13, s13⟩ := r13.lst_inv
          cases e13
          have l13 := s13.len
          (walk_at "zs")
          refine ⟨h, c, p13, xs, rfl, hd13, n13, h13, by rw [l13]; simp, by rw [l13]; simp, fun bv j H14 hbv g14 => ?_⟩
          have hd14 := g14.2 hd13
          obtain ⟨bd, hbd, rb⟩ := s13.atV hbv
          have nb : false = bd.isO A.cl A.c_House := by
            have m := List.mem_of_getElem? hbd
            simp only [List.mem_cons, List.not_mem_nil, or_false] at m
            rcases m with rfl | rfl | rfl | rfl | rfl | rfl | rfl
            all_goals first
              | rfl
              | (rcases hT with w | w <;> (cases bd <;> first | rfl | exact Bool.noConfusion w))
              | (show false = decide (A.c_Standing = A.c_House)
                 rw [decide_eq_false (fun z => T.dn_House_Standing z.symm)])
          (walk_at "zs")
          refine z_newS (fun p15 H15 s15 n15 e15 => ?_)
          have g15 : Go h c H14 H15 := Go.same s15
          have hd15 := g15.2 hd14
          (walk_at "zs")
          refine ⟨h, c, _, rfl, hd15, by decide, by decide, fun r16 H16 r160 r161 g16 => ?_⟩
          have hd16 := g16.2 hd15
          refine z_ixA (g16.1 _ _ (hd14.ne n15) e15) r160 r161 fun v16 hv16 => ?_
          obtain ⟨od, rfl⟩ : ∃ s, v16 = .int s := by
            simp only [List.mem_cons, List.not_mem_nil, or_false] at hv16
            rcases hv16 with rfl | rfl | rfl <;> exact ⟨_, rfl⟩
          have g716 := ((((g711.trans g12).trans g13).trans g14).trans g15).trans g16
          (walk_at "zs")
          refine ⟨h, c, gv, gs, f, .ref xh, _, rfl, hd16, g716.r rg7, hgs, g716.r r7, fun v17 d17 H17 g17 r17 => ?_⟩
          have hd17 := g17.2 hd16
          (walk_at "zs")
          refine ⟨h, c, bv, .int od, v17, false, f, r, bd, .int od, d17, rfl, hd17, (((g14.trans g15).trans g16).trans g17).r rb, nb, fun z => Bool.noConfusion z, .int _, r17, fun H18 g18 => ?_⟩
          (walk_at "zs")
          exact ⟨⟨_, _, _, _, _, _, _, _, rfl⟩, ((g57.trans g716).trans g17).trans g18⟩
        · (walk_at "zs")
          refine z_ite (fun k1 => ?_) (fun k1 => ?_)
          · (walk_at "zs")
            refine ⟨h, c, _, f, .ref xh, _, rfl, hd7, sxH hd7, r7, fun v8 d8 H8 g8 r8 => ?_⟩
            have hd8 := g8.2 hd7
            (walk_at "zs")
            refine ⟨h, c, gv, gs, f, .ref xh, _, rfl, hd8, g8.r rg7, hgs, g8.r r7, fun v17 d17 H17 g17 r17 => ?_⟩
            have hd17 := g17.2 hd8
            (walk_at "zs")
            refine ⟨h, c, .ref xh, v8, v17, true, f, r, .hou f r, d8, d17, rfl, hd17, (g8.trans g17).r r7, hoH, fun _ => rfl, g17.r r8, r17, fun H18 g18 => ?_⟩
            (walk_at "zs")
            exact ⟨⟨_, _, _, _, _, _, _, _, rfl⟩, ((g57.trans g8).trans g17).trans g18⟩
          · (walk_at "zs")
            refine ⟨h, c, gv, gs, f, .ref xh, _, rfl, hd7, rg7, hgs, r7, fun v17 d17 H17 g17 r17 => ?_⟩
            have hd17 := g17.2 hd7
            (walk_at "zs")
            refine ⟨h, c, .ref xh, .int l, v17, true, f, r, .hou f r, .int l, d17, rfl, hd17, g17.r r7, hoH, fun _ => rfl, .int _, r17, fun H18 g18 => ?_⟩
            (walk_at "zs")
            exact ⟨⟨_, _, _, _, _, _, _, _, rfl⟩, (g57.trans g17).trans g18⟩
      · rintro σ H6 ⟨⟨u2, u3, u4, u10, u11, u12, u13, u14, rfl⟩, g6⟩
        exact ⟨⟨_, _, _, _, _, _, _, _, _, _, _, _, _, rfl⟩, (g2.trans g25).trans g6⟩
    · rintro σ H2 ⟨⟨u2, u3, u4, u5, u6, u7, u8, u9, u10, u11, u12, u13, u14, rfl⟩, g2⟩
      have hd2 := g2.2 hd
      (walk_at "zs")
      refine ⟨h, c, _, rfl, hd2, by decide, by decide, fun r3 H3 r30 r31 g3 => ?_⟩
      have hd3 := g3.2 hd2
      (walk_at "zs")
      refine ⟨_, rfl, by omega, by omega, fun D hD => lc_range (lo := 0) (n := (399 + r3).toNat) (fun i H4 => Go h c H3 H4 ∧ ∃ acc ds, H4 D = some (.lst acc) ∧ acc.length = i ∧ RSs A.cl (fun a => a ≠ h ∧ a ≠ D) H4 acc ds)
        ⟨Go.new hd3 hD, [], [], upd_same, rfl, .nil⟩ ?_ ?_⟩
      · rintro i H4 il ⟨g4, acc, ds, eD, la, rs⟩
        have hd4 := g4.2 hd3
        refine z_gname ⟨rfl, ?_⟩
        (walk_at "zs")
        refine z_I ⟨by decide, by decide⟩ ?_
        (walk_at "zs")
        refine z_I ⟨by decide, by decide⟩ ?_
        (walk_at "zs")
        refine z_I (.inr ⟨by decide, by decide⟩) ?_
        (walk_at "zs")
        refine z_pow (n := 1000000000000000000000000000000) ⟨by decide, by decide, by decide⟩ rfl ?_
        (walk_at "zs")
        generalize (0 + (i : Int)) - ((0 + (i : Int)).fdiv 40) * 40 = m2
        generalize (0 + (i : Int)).fdiv 40 = m1
        refine ⟨sz1000 (Nat.le_of_ble_eq_true rfl), fun p np => ?_⟩
        have pD : p ≠ D := fun z => by
          rw [z, eD] at np
          cases np
        refine ⟨acc, by rw [upd_ne pD.symm]; exact eD, by rw [la, sizeLine_eq]; omega, (g4.trans (Go.new hd4 np)).mut hd3 hD, acc ++ [.ref p], ds ++ [.tup [.int m1, .int m2, .int 1000000000000000000000000000000]], upd_same, by rw [List.length_append, la]; rfl, ?_⟩
        refine RSs.app2 (RSs.to (fun a o s e => ⟨s, by rw [upd_ne s.2, upd_ne (ne_of_none e np)]; exact e⟩) rs) (.cons (.tup ⟨hd4.ne np, pD⟩ (by rw [upd_ne pD, upd_same]) (.cons (.int _) (.cons (.int _) (.cons (.int _) .nil)))) .nil)
      · rintro H4 ⟨g4, acc, ds, eD, la, rs⟩
        have hd4 := g4.2 hd3
        (walk_at "zs")
        refine ⟨D, acc, rfl, .inl ⟨SqL.of eD, fun q nq => ?_⟩⟩
        have g5 := Go.new (o := .tup acc) hd4 nq
        have hd5 := g5.2 hd4
        have rq : R A.cl h (upd H4 q (.tup acc)) (.ref q) (.tup ds) := .tup (hd4.ne nq) upd_same (RSs.to (fun a o s e => ⟨s.1, by rw [upd_ne (ne_of_none e nq)]; exact e⟩) rs)
        generalize upd H4 q (.tup acc) = H5 at g5 hd5 rq ⊢
        (walk_at "zs")
        refine z_house hd5 (.int _) (.int _) rfl rfl fun xh H6 g6 _ r6 => ?_
        have hd6 := g6.2 hd5
        have r6' : R A.cl h H6 (.ref xh) (.hou 40 1) := r6
        (walk_at "zs")
        exact ⟨h, c, .ref xh, .int 39, .ref q, true, 40, 1, .hou 40 1, .int 39, .tup ds, rfl, hd6, r6', (by show true = decide (A.cl 0 = A.cl 0); simp), fun _ => rfl, .int _, g6.r rq, fun H7 _ => k _⟩
end
theorem all_mk {P : Program} {w : World} {K : PySem.W.Frag} {h : Heap} {mg : Str → Option Value} (X : K.In h) (G : h.Ns mainGlobals mg) {fa : Addr} (hfa : mg "law" = some (.ref fa))
    (hl_MOST_PEOPLE : ∃ t, mg "MOST_PEOPLE" = some (.int 1000000000000000000000000000000 t))
    (hl_MOST_ROOM : ∃ t, mg "MOST_ROOM" = some (.int 1000000000000 t))
    {c_LiftError c_BadHouse c_BadStanding c_House c_Standing a__law_hand a_BadStanding___init__ a_is_integer a_is_between a_is_floor a_is_tuple_of a_is_from a_is_group a_is_bounded_groups a_Standing___init__ a__law_told a_House___eq__ a__law_is_int a__law_is_group a__law_are_groups a__law_right a__law_draw a__law_groups a__law_great a__law_great_groups a__law_world a_BadHouse___init__ a_House___init__ a_Standing___eq__ a__law_some a__law_deep a__law_odd a__law_bent a_law : Addr} {od__law_hand an__law_hand od_BadStanding___init__ an_BadStanding___init__ od_is_integer an_is_integer od_is_between an_is_between od_is_floor an_is_floor od_is_tuple_of an_is_tuple_of od_is_from an_is_from od_is_group an_is_group od_is_bounded_groups an_is_bounded_groups od_Standing___init__ an_Standing___init__ od__law_told an__law_told od_House___eq__ an_House___eq__ od__law_is_int an__law_is_int od__law_is_group an__law_is_group od__law_are_groups an__law_are_groups od__law_right an__law_right od__law_draw an__law_draw od__law_groups an__law_groups od__law_great an__law_great od__law_great_groups an__law_great_groups od__law_world an__law_world od_BadHouse___init__ an_BadHouse___init__ od_House___init__ an_House___init__ od_Standing___eq__ an_Standing___eq__ od__law_some an__law_some od__law_deep an__law_deep od__law_odd an__law_odd od__law_bent an__law_bent od_law an_law : Option Addr} {sl__law_hand sl_BadStanding___init__ sl_is_integer sl_is_between sl_is_floor sl_is_tuple_of sl_is_from sl_is_group sl_is_bounded_groups sl_Standing___init__ sl__law_told sl_House___eq__ sl__law_is_int sl__law_is_group sl__law_are_groups sl__law_right sl__law_draw sl__law_groups sl__law_great sl__law_great_groups sl__law_world sl_BadHouse___init__ sl_House___init__ sl_Standing___eq__ sl__law_some sl__law_deep sl__law_odd sl__law_bent sl_law : Array (Option Value)} {oc__law_hand kV__law_hand dc__law_hand pm__law_hand cd__law_hand ct__law_hand oc_BadStanding___init__ kV_BadStanding___init__ dc_BadStanding___init__ pm_BadStanding___init__ cd_BadStanding___init__ ct_BadStanding___init__ oc_is_integer kV_is_integer dc_is_integer pm_is_integer cd_is_integer ct_is_integer oc_is_between kV_is_between dc_is_between pm_is_between cd_is_between ct_is_between oc_is_floor kV_is_floor dc_is_floor pm_is_floor cd_is_floor ct_is_floor oc_is_tuple_of kV_is_tuple_of dc_is_tuple_of pm_is_tuple_of cd_is_tuple_of ct_is_tuple_of oc_is_from kV_is_from dc_is_from pm_is_from cd_is_from ct_is_from oc_is_group kV_is_group dc_is_group pm_is_group cd_is_group ct_is_group oc_is_bounded_groups kV_is_bounded_groups dc_is_bounded_groups pm_is_bounded_groups cd_is_bounded_groups ct_is_bounded_groups oc_Standing___init__ kV_Standing___init__ dc_Standing___init__ pm_Standing___init__ cd_Standing___init__ ct_Standing___init__ oc__law_told kV__law_told dc__law_told pm__law_told cd__law_told ct__law_told oc_House___eq__ kV_House___eq__ dc_House___eq__ pm_House___eq__ cd_House___eq__ ct_House___eq__ oc__law_is_int kV__law_is_int dc__law_is_int pm__law_is_int cd__law_is_int ct__law_is_int oc__law_is_group kV__law_is_group dc__law_is_group pm__law_is_group cd__law_is_group ct__law_is_group oc__law_are_groups kV__law_are_groups dc__law_are_groups pm__law_are_groups cd__law_are_groups ct__law_are_groups oc__law_right kV__law_right dc__law_right pm__law_right cd__law_right ct__law_right oc__law_draw kV__law_draw dc__law_draw pm__law_draw cd__law_draw ct__law_draw oc__law_groups kV__law_groups dc__law_groups pm__law_groups cd__law_groups ct__law_groups oc__law_great kV__law_great dc__law_great pm__law_great cd__law_great ct__law_great oc__law_great_groups kV__law_great_groups dc__law_great_groups pm__law_great_groups cd__law_great_groups ct__law_great_groups oc__law_world kV__law_world dc__law_world pm__law_world cd__law_world ct__law_world oc_BadHouse___init__ kV_BadHouse___init__ dc_BadHouse___init__ pm_BadHouse___init__ cd_BadHouse___init__ ct_BadHouse___init__ oc_House___init__ kV_House___init__ dc_House___init__ pm_House___init__ cd_House___init__ ct_House___init__ oc_Standing___eq__ kV_Standing___eq__ dc_Standing___eq__ pm_Standing___eq__ cd_Standing___eq__ ct_Standing___eq__ oc__law_some kV__law_some dc__law_some pm__law_some cd__law_some ct__law_some oc__law_deep kV__law_deep dc__law_deep pm__law_deep cd__law_deep ct__law_deep oc__law_odd kV__law_odd dc__law_odd pm__law_odd cd__law_odd ct__law_odd oc__law_bent kV__law_bent dc__law_bent pm__law_bent cd__law_bent ct__law_bent oc_law kV_law dc_law pm_law cd_law ct_law : Value} {tv_MOST_FLOORS tv_MOST_GROUPS : Tok}
    {nm_BadHouse q_BadHouse : Str} {N_BadHouse : Addr} {bs_BadHouse : List Value} {sn_BadHouse : List Str} {sub_BadHouse : List Value} {ab_BadHouse : Bool} {col_BadHouse : Option Bool} {dd_BadHouse : Option Addr} {m0_BadHouse m1_BadHouse m2_BadHouse m3_BadHouse m5_BadHouse : Option Value}
    {nm_BadStanding q_BadStanding : Str} {N_BadStanding : Addr} {bs_BadStanding : List Value} {sn_BadStanding : List Str} {sub_BadStanding : List Value} {ab_BadStanding : Bool} {col_BadStanding : Option Bool} {dd_BadStanding : Option Addr} {m0_BadStanding m1_BadStanding m2_BadStanding m3_BadStanding m5_BadStanding : Option Value}
    (gC_LiftError : PySem.W.nsIn K mainGlobals "LiftError" = some (some (.ref c_LiftError)))
    (gC_BadHouse : PySem.W.nsIn K mainGlobals "BadHouse" = some (some (.ref c_BadHouse)))
    (gC_BadStanding : PySem.W.nsIn K mainGlobals "BadStanding" = some (some (.ref c_BadStanding)))
    (gC_House : PySem.W.nsIn K mainGlobals "House" = some (some (.ref c_House)))
    (gC_Standing : PySem.W.nsIn K mainGlobals "Standing" = some (some (.ref c_Standing)))
    (hA__law_hand : PySem.W.nsIn K mainGlobals "_law_hand" = some (some (.ref a__law_hand)))
    (hL__law_hand : K.lookup a__law_hand = some ⟨oc__law_hand, od__law_hand, .func (PySem.W.fnOf "_law_hand" "_law_hand" (defArgs s__law_hand) (defBody s__law_hand) (defScope s__law_hand) .none kV__law_hand dc__law_hand pm__law_hand an__law_hand cd__law_hand ct__law_hand), sl__law_hand⟩)
    (hC__law_hand : PySem.W.codeIn K cd__law_hand "_law_hand" = true)
    (hK__law_hand : PySem.W.keepIn K (.ref a__law_hand) = true)
    (hA_BadStanding___init__ : PySem.W.findIn K (.ref c_BadStanding) "__init__" = some (some (.ref a_BadStanding___init__)))
    (hL_BadStanding___init__ : K.lookup a_BadStanding___init__ = some ⟨oc_BadStanding___init__, od_BadStanding___init__, .func (PySem.W.fnOf "__init__" "BadStanding.__init__" (defArgs s_BadStanding___init__) (defBody s_BadStanding___init__) (defScope s_BadStanding___init__) .none kV_BadStanding___init__ dc_BadStanding___init__ pm_BadStanding___init__ an_BadStanding___init__ cd_BadStanding___init__ ct_BadStanding___init__), sl_BadStanding___init__⟩)
    (hC_BadStanding___init__ : PySem.W.codeIn K cd_BadStanding___init__ "BadStanding.__init__" = true)
    (hK_BadStanding___init__ : PySem.W.keepIn K (.ref a_BadStanding___init__) = true)
    (hA_is_integer : PySem.W.nsIn K mainGlobals "is_integer" = some (some (.ref a_is_integer)))
    (hL_is_integer : K.lookup a_is_integer = some ⟨oc_is_integer, od_is_integer, .func (PySem.W.fnOf "is_integer" "is_integer" (defArgs s_is_integer) (defBody s_is_integer) (defScope s_is_integer) .none kV_is_integer dc_is_integer pm_is_integer an_is_integer cd_is_integer ct_is_integer), sl_is_integer⟩)
    (hC_is_integer : PySem.W.codeIn K cd_is_integer "is_integer" = true)
    (hK_is_integer : PySem.W.keepIn K (.ref a_is_integer) = true)
    (hA_is_between : PySem.W.nsIn K mainGlobals "is_between" = some (some (.ref a_is_between)))
    (hL_is_between : K.lookup a_is_between = some ⟨oc_is_between, od_is_between, .func (PySem.W.fnOf "is_between" "is_between" (defArgs s_is_between) (defBody s_is_between) (defScope s_is_between) .none kV_is_between dc_is_between pm_is_between an_is_between cd_is_between ct_is_between), sl_is_between⟩)
    (hC_is_between : PySem.W.codeIn K cd_is_between "is_between" = true)
    (hK_is_between : PySem.W.keepIn K (.ref a_is_between) = true)
    (hA_is_floor : PySem.W.nsIn K mainGlobals "is_floor" = some (some (.ref a_is_floor)))
    (hL_is_floor : K.lookup a_is_floor = some ⟨oc_is_floor, od_is_floor, .func (PySem.W.fnOf "is_floor" "is_floor" (defArgs s_is_floor) (defBody s_is_floor) (defScope s_is_floor) .none kV_is_floor dc_is_floor pm_is_floor an_is_floor cd_is_floor ct_is_floor), sl_is_floor⟩)
    (hC_is_floor : PySem.W.codeIn K cd_is_floor "is_floor" = true)
    (hK_is_floor : PySem.W.keepIn K (.ref a_is_floor) = true)
    (hA_is_tuple_of : PySem.W.nsIn K mainGlobals "is_tuple_of" = some (some (.ref a_is_tuple_of)))
    (hL_is_tuple_of : K.lookup a_is_tuple_of = some ⟨oc_is_tuple_of, od_is_tuple_of, .func (PySem.W.fnOf "is_tuple_of" "is_tuple_of" (defArgs s_is_tuple_of) (defBody s_is_tuple_of) (defScope s_is_tuple_of) .none kV_is_tuple_of dc_is_tuple_of pm_is_tuple_of an_is_tuple_of cd_is_tuple_of ct_is_tuple_of), sl_is_tuple_of⟩)
    (hC_is_tuple_of : PySem.W.codeIn K cd_is_tuple_of "is_tuple_of" = true)
    (hK_is_tuple_of : PySem.W.keepIn K (.ref a_is_tuple_of) = true)
    (hA_is_from : PySem.W.nsIn K mainGlobals "is_from" = some (some (.ref a_is_from)))
    (hL_is_from : K.lookup a_is_from = some ⟨oc_is_from, od_is_from, .func (PySem.W.fnOf "is_from" "is_from" (defArgs s_is_from) (defBody s_is_from) (defScope s_is_from) .none kV_is_from dc_is_from pm_is_from an_is_from cd_is_from ct_is_from), sl_is_from⟩)
    (hC_is_from : PySem.W.codeIn K cd_is_from "is_from" = true)
    (hK_is_from : PySem.W.keepIn K (.ref a_is_from) = true)
    (hA_is_group : PySem.W.nsIn K mainGlobals "is_group" = some (some (.ref a_is_group)))
    (hL_is_group : K.lookup a_is_group = some ⟨oc_is_group, od_is_group, .func (PySem.W.fnOf "is_group" "is_group" (defArgs s_is_group) (defBody s_is_group) (defScope s_is_group) .none kV_is_group dc_is_group pm_is_group an_is_group cd_is_group ct_is_group), sl_is_group⟩)
    (hC_is_group : PySem.W.codeIn K cd_is_group "is_group" = true)
    (hK_is_group : PySem.W.keepIn K (.ref a_is_group) = true)
    (hA_is_bounded_groups : PySem.W.nsIn K mainGlobals "is_bounded_groups" = some (some (.ref a_is_bounded_groups)))
    (hL_is_bounded_groups : K.lookup a_is_bounded_groups = some ⟨oc_is_bounded_groups, od_is_bounded_groups, .func (PySem.W.fnOf "is_bounded_groups" "is_bounded_groups" (defArgs s_is_bounded_groups) (defBody s_is_bounded_groups) (defScope s_is_bounded_groups) .none kV_is_bounded_groups dc_is_bounded_groups pm_is_bounded_groups an_is_bounded_groups cd_is_bounded_groups ct_is_bounded_groups), sl_is_bounded_groups⟩)
    (hC_is_bounded_groups : PySem.W.codeIn K cd_is_bounded_groups "is_bounded_groups" = true)
    (hK_is_bounded_groups : PySem.W.keepIn K (.ref a_is_bounded_groups) = true)
    (hA_Standing___init__ : PySem.W.findIn K (.ref c_Standing) "__init__" = some (some (.ref a_Standing___init__)))
    (hL_Standing___init__ : K.lookup a_Standing___init__ = some ⟨oc_Standing___init__, od_Standing___init__, .func (PySem.W.fnOf "__init__" "Standing.__init__" (defArgs s_Standing___init__) (defBody s_Standing___init__) (defScope s_Standing___init__) .none kV_Standing___init__ dc_Standing___init__ pm_Standing___init__ an_Standing___init__ cd_Standing___init__ ct_Standing___init__), sl_Standing___init__⟩)
    (hC_Standing___init__ : PySem.W.codeIn K cd_Standing___init__ "Standing.__init__" = true)
    (hK_Standing___init__ : PySem.W.keepIn K (.ref a_Standing___init__) = true)
    (hI_Standing___init__ : PySem.W.isFn K (.ref a_Standing___init__) = true)
    (hA__law_told : PySem.W.nsIn K mainGlobals "_law_told" = some (some (.ref a__law_told)))
    (hL__law_told : K.lookup a__law_told = some ⟨oc__law_told, od__law_told, .func (PySem.W.fnOf "_law_told" "_law_told" (defArgs s__law_told) (defBody s__law_told) (defScope s__law_told) .none kV__law_told dc__law_told pm__law_told an__law_told cd__law_told ct__law_told), sl__law_told⟩)
    (hC__law_told : PySem.W.codeIn K cd__law_told "_law_told" = true)
    (hK__law_told : PySem.W.keepIn K (.ref a__law_told) = true)
    (hA_House___eq__ : PySem.W.findIn K (.ref c_House) "__eq__" = some (some (.ref a_House___eq__)))
    (hL_House___eq__ : K.lookup a_House___eq__ = some ⟨oc_House___eq__, od_House___eq__, .func (PySem.W.fnOf "__eq__" "House.__eq__" (defArgs s_House___eq__) (defBody s_House___eq__) (defScope s_House___eq__) .none kV_House___eq__ dc_House___eq__ pm_House___eq__ an_House___eq__ cd_House___eq__ ct_House___eq__), sl_House___eq__⟩)
    (hC_House___eq__ : PySem.W.codeIn K cd_House___eq__ "House.__eq__" = true)
    (hK_House___eq__ : PySem.W.keepIn K (.ref a_House___eq__) = true)
    (hI_House___eq__ : PySem.W.isFn K (.ref a_House___eq__) = true)
    (hA__law_is_int : PySem.W.nsIn K mainGlobals "_law_is_int" = some (some (.ref a__law_is_int)))
    (hL__law_is_int : K.lookup a__law_is_int = some ⟨oc__law_is_int, od__law_is_int, .func (PySem.W.fnOf "_law_is_int" "_law_is_int" (defArgs s__law_is_int) (defBody s__law_is_int) (defScope s__law_is_int) .none kV__law_is_int dc__law_is_int pm__law_is_int an__law_is_int cd__law_is_int ct__law_is_int), sl__law_is_int⟩)
    (hC__law_is_int : PySem.W.codeIn K cd__law_is_int "_law_is_int" = true)
    (hK__law_is_int : PySem.W.keepIn K (.ref a__law_is_int) = true)
    (hA__law_is_group : PySem.W.nsIn K mainGlobals "_law_is_group" = some (some (.ref a__law_is_group)))
    (hL__law_is_group : K.lookup a__law_is_group = some ⟨oc__law_is_group, od__law_is_group, .func (PySem.W.fnOf "_law_is_group" "_law_is_group" (defArgs s__law_is_group) (defBody s__law_is_group) (defScope s__law_is_group) .none kV__law_is_group dc__law_is_group pm__law_is_group an__law_is_group cd__law_is_group ct__law_is_group), sl__law_is_group⟩)
    (hC__law_is_group : PySem.W.codeIn K cd__law_is_group "_law_is_group" = true)
    (hK__law_is_group : PySem.W.keepIn K (.ref a__law_is_group) = true)
    (hA__law_are_groups : PySem.W.nsIn K mainGlobals "_law_are_groups" = some (some (.ref a__law_are_groups)))
    (hL__law_are_groups : K.lookup a__law_are_groups = some ⟨oc__law_are_groups, od__law_are_groups, .func (PySem.W.fnOf "_law_are_groups" "_law_are_groups" (defArgs s__law_are_groups) (defBody s__law_are_groups) (defScope s__law_are_groups) .none kV__law_are_groups dc__law_are_groups pm__law_are_groups an__law_are_groups cd__law_are_groups ct__law_are_groups), sl__law_are_groups⟩)
    (hC__law_are_groups : PySem.W.codeIn K cd__law_are_groups "_law_are_groups" = true)
    (hK__law_are_groups : PySem.W.keepIn K (.ref a__law_are_groups) = true)
    (hA__law_right : PySem.W.nsIn K mainGlobals "_law_right" = some (some (.ref a__law_right)))
    (hL__law_right : K.lookup a__law_right = some ⟨oc__law_right, od__law_right, .func (PySem.W.fnOf "_law_right" "_law_right" (defArgs s__law_right) (defBody s__law_right) (defScope s__law_right) .none kV__law_right dc__law_right pm__law_right an__law_right cd__law_right ct__law_right), sl__law_right⟩)
    (hC__law_right : PySem.W.codeIn K cd__law_right "_law_right" = true)
    (hK__law_right : PySem.W.keepIn K (.ref a__law_right) = true)
    (hA__law_draw : PySem.W.nsIn K mainGlobals "_law_draw" = some (some (.ref a__law_draw)))
    (hL__law_draw : K.lookup a__law_draw = some ⟨oc__law_draw, od__law_draw, .func (PySem.W.fnOf "_law_draw" "_law_draw" (defArgs s__law_draw) (defBody s__law_draw) (defScope s__law_draw) .none kV__law_draw dc__law_draw pm__law_draw an__law_draw cd__law_draw ct__law_draw), sl__law_draw⟩)
    (hC__law_draw : PySem.W.codeIn K cd__law_draw "_law_draw" = true)
    (hK__law_draw : PySem.W.keepIn K (.ref a__law_draw) = true)
    (hA__law_groups : PySem.W.nsIn K mainGlobals "_law_groups" = some (some (.ref a__law_groups)))
    (hL__law_groups : K.lookup a__law_groups = some ⟨oc__law_groups, od__law_groups, .func (PySem.W.fnOf "_law_groups" "_law_groups" (defArgs s__law_groups) (defBody s__law_groups) (defScope s__law_groups) .none kV__law_groups dc__law_groups pm__law_groups an__law_groups cd__law_groups ct__law_groups), sl__law_groups⟩)
    (hC__law_groups : PySem.W.codeIn K cd__law_groups "_law_groups" = true)
    (hK__law_groups : PySem.W.keepIn K (.ref a__law_groups) = true)
    (hA__law_great : PySem.W.nsIn K mainGlobals "_law_great" = some (some (.ref a__law_great)))
    (hL__law_great : K.lookup a__law_great = some ⟨oc__law_great, od__law_great, .func (PySem.W.fnOf "_law_great" "_law_great" (defArgs s__law_great) (defBody s__law_great) (defScope s__law_great) .none kV__law_great dc__law_great pm__law_great an__law_great cd__law_great ct__law_great), sl__law_great⟩)
    (hC__law_great : PySem.W.codeIn K cd__law_great "_law_great" = true)
    (hK__law_great : PySem.W.keepIn K (.ref a__law_great) = true)
    (hA__law_great_groups : PySem.W.nsIn K mainGlobals "_law_great_groups" = some (some (.ref a__law_great_groups)))
    (hL__law_great_groups : K.lookup a__law_great_groups = some ⟨oc__law_great_groups, od__law_great_groups, .func (PySem.W.fnOf "_law_great_groups" "_law_great_groups" (defArgs s__law_great_groups) (defBody s__law_great_groups) (defScope s__law_great_groups) .none kV__law_great_groups dc__law_great_groups pm__law_great_groups an__law_great_groups cd__law_great_groups ct__law_great_groups), sl__law_great_groups⟩)
    (hC__law_great_groups : PySem.W.codeIn K cd__law_great_groups "_law_great_groups" = true)
    (hK__law_great_groups : PySem.W.keepIn K (.ref a__law_great_groups) = true)
    (hA__law_world : PySem.W.nsIn K mainGlobals "_law_world" = some (some (.ref a__law_world)))
    (hL__law_world : K.lookup a__law_world = some ⟨oc__law_world, od__law_world, .func (PySem.W.fnOf "_law_world" "_law_world" (defArgs s__law_world) (defBody s__law_world) (defScope s__law_world) .none kV__law_world dc__law_world pm__law_world an__law_world cd__law_world ct__law_world), sl__law_world⟩)
    (hC__law_world : PySem.W.codeIn K cd__law_world "_law_world" = true)
    (hK__law_world : PySem.W.keepIn K (.ref a__law_world) = true)
    (hA_BadHouse___init__ : PySem.W.findIn K (.ref c_BadHouse) "__init__" = some (some (.ref a_BadHouse___init__)))
    (hL_BadHouse___init__ : K.lookup a_BadHouse___init__ = some ⟨oc_BadHouse___init__, od_BadHouse___init__, .func (PySem.W.fnOf "__init__" "BadHouse.__init__" (defArgs s_BadHouse___init__) (defBody s_BadHouse___init__) (defScope s_BadHouse___init__) .none kV_BadHouse___init__ dc_BadHouse___init__ pm_BadHouse___init__ an_BadHouse___init__ cd_BadHouse___init__ ct_BadHouse___init__), sl_BadHouse___init__⟩)
    (hC_BadHouse___init__ : PySem.W.codeIn K cd_BadHouse___init__ "BadHouse.__init__" = true)
    (hK_BadHouse___init__ : PySem.W.keepIn K (.ref a_BadHouse___init__) = true)
    (hA_House___init__ : PySem.W.findIn K (.ref c_House) "__init__" = some (some (.ref a_House___init__)))
    (hL_House___init__ : K.lookup a_House___init__ = some ⟨oc_House___init__, od_House___init__, .func (PySem.W.fnOf "__init__" "House.__init__" (defArgs s_House___init__) (defBody s_House___init__) (defScope s_House___init__) .none kV_House___init__ dc_House___init__ pm_House___init__ an_House___init__ cd_House___init__ ct_House___init__), sl_House___init__⟩)
    (hC_House___init__ : PySem.W.codeIn K cd_House___init__ "House.__init__" = true)
    (hK_House___init__ : PySem.W.keepIn K (.ref a_House___init__) = true)
    (hI_House___init__ : PySem.W.isFn K (.ref a_House___init__) = true)
    (hA_Standing___eq__ : PySem.W.findIn K (.ref c_Standing) "__eq__" = some (some (.ref a_Standing___eq__)))
    (hL_Standing___eq__ : K.lookup a_Standing___eq__ = some ⟨oc_Standing___eq__, od_Standing___eq__, .func (PySem.W.fnOf "__eq__" "Standing.__eq__" (defArgs s_Standing___eq__) (defBody s_Standing___eq__) (defScope s_Standing___eq__) .none kV_Standing___eq__ dc_Standing___eq__ pm_Standing___eq__ an_Standing___eq__ cd_Standing___eq__ ct_Standing___eq__), sl_Standing___eq__⟩)
    (hC_Standing___eq__ : PySem.W.codeIn K cd_Standing___eq__ "Standing.__eq__" = true)
    (hK_Standing___eq__ : PySem.W.keepIn K (.ref a_Standing___eq__) = true)
    (hI_Standing___eq__ : PySem.W.isFn K (.ref a_Standing___eq__) = true)
    (hA__law_some : PySem.W.nsIn K mainGlobals "_law_some" = some (some (.ref a__law_some)))
    (hL__law_some : K.lookup a__law_some = some ⟨oc__law_some, od__law_some, .func (PySem.W.fnOf "_law_some" "_law_some" (defArgs s__law_some) (defBody s__law_some) (defScope s__law_some) .none kV__law_some dc__law_some pm__law_some an__law_some cd__law_some ct__law_some), sl__law_some⟩)
    (hC__law_some : PySem.W.codeIn K cd__law_some "_law_some" = true)
    (hK__law_some : PySem.W.keepIn K (.ref a__law_some) = true)
    (hA__law_deep : PySem.W.nsIn K mainGlobals "_law_deep" = some (some (.ref a__law_deep)))
    (hL__law_deep : K.lookup a__law_deep = some ⟨oc__law_deep, od__law_deep, .func (PySem.W.fnOf "_law_deep" "_law_deep" (defArgs s__law_deep) (defBody s__law_deep) (defScope s__law_deep) .none kV__law_deep dc__law_deep pm__law_deep an__law_deep cd__law_deep ct__law_deep), sl__law_deep⟩)
    (hC__law_deep : PySem.W.codeIn K cd__law_deep "_law_deep" = true)
    (hK__law_deep : PySem.W.keepIn K (.ref a__law_deep) = true)
    (hA__law_odd : PySem.W.nsIn K mainGlobals "_law_odd" = some (some (.ref a__law_odd)))
    (hL__law_odd : K.lookup a__law_odd = some ⟨oc__law_odd, od__law_odd, .func (PySem.W.fnOf "_law_odd" "_law_odd" (defArgs s__law_odd) (defBody s__law_odd) (defScope s__law_odd) .none kV__law_odd dc__law_odd pm__law_odd an__law_odd cd__law_odd ct__law_odd), sl__law_odd⟩)
    (hC__law_odd : PySem.W.codeIn K cd__law_odd "_law_odd" = true)
    (hK__law_odd : PySem.W.keepIn K (.ref a__law_odd) = true)
    (hA__law_bent : PySem.W.nsIn K mainGlobals "_law_bent" = some (some (.ref a__law_bent)))
    (hL__law_bent : K.lookup a__law_bent = some ⟨oc__law_bent, od__law_bent, .func (PySem.W.fnOf "_law_bent" "_law_bent" (defArgs s__law_bent) (defBody s__law_bent) (defScope s__law_bent) .none kV__law_bent dc__law_bent pm__law_bent an__law_bent cd__law_bent ct__law_bent), sl__law_bent⟩)
    (hC__law_bent : PySem.W.codeIn K cd__law_bent "_law_bent" = true)
    (hK__law_bent : PySem.W.keepIn K (.ref a__law_bent) = true)
    (hA_law : PySem.W.nsIn K mainGlobals "law" = some (some (.ref a_law)))
    (hL_law : K.lookup a_law = some ⟨oc_law, od_law, .func (PySem.W.fnOf "law" "law" (defArgs s_law) (defBody s_law) (defScope s_law) .none kV_law dc_law pm_law an_law cd_law ct_law), sl_law⟩)
    (hC_law : PySem.W.codeIn K cd_law "law" = true)
    (hK_law : PySem.W.keepIn K (.ref a_law) = true)
    (k1_House : PySem.W.plainGet K c_House Str.empty = true)
    (k2_House : PySem.W.hasDictIn K c_House = true)
    (k3_House : PySem.W.plainOver K c_House = true)
    (k4_House : PySem.W.findIn K (.ref c_House) "__setattr__" = some (some (.builtin "object.__setattr__")))
    (k5_House : PySem.W.findIn K (.ref c_House) "__class__" = some (some (.builtin "object.__class__")))
    (k6_House : PySem.W.mroIn K c_House (.type "object") = some true)
    (k7_House : PySem.W.isClsIn K c_House = true)
    (k8_House : PySem.W.typeIn K (.ref c_House) = some (.type "type"))
    (ktint_House : PySem.W.mroIn K c_House (.type "int") = some false)
    (ktbool_House : PySem.W.mroIn K c_House (.type "bool") = some false)
    (ktstr_House : PySem.W.mroIn K c_House (.type "str") = some false)
    (ktlist_House : PySem.W.mroIn K c_House (.type "list") = some false)
    (kttuple_House : PySem.W.mroIn K c_House (.type "tuple") = some false)
    (ktdict_House : PySem.W.mroIn K c_House (.type "dict") = some false)
    (k9_House : PySem.W.makesIn K c_House = true)
    (k0_House : PySem.W.keepIn K (.ref c_House) = true)
    (ne_House : PySem.W.findIn K (.ref c_House) "__ne__" = some (some (.builtin "object.__ne__")))
    (na_House_floors : PySem.W.findIn K (.ref c_House) "floors" = some none)
    (na_House_room : PySem.W.findIn K (.ref c_House) "room" = some none)
    (k1_Standing : PySem.W.plainGet K c_Standing Str.empty = true)
    (k2_Standing : PySem.W.hasDictIn K c_Standing = true)
    (k3_Standing : PySem.W.plainOver K c_Standing = true)
    (k4_Standing : PySem.W.findIn K (.ref c_Standing) "__setattr__" = some (some (.builtin "object.__setattr__")))
    (k5_Standing : PySem.W.findIn K (.ref c_Standing) "__class__" = some (some (.builtin "object.__class__")))
    (k6_Standing : PySem.W.mroIn K c_Standing (.type "object") = some true)
    (k7_Standing : PySem.W.isClsIn K c_Standing = true)
    (k8_Standing : PySem.W.typeIn K (.ref c_Standing) = some (.type "type"))
    (ktint_Standing : PySem.W.mroIn K c_Standing (.type "int") = some false)
    (ktbool_Standing : PySem.W.mroIn K c_Standing (.type "bool") = some false)
    (ktstr_Standing : PySem.W.mroIn K c_Standing (.type "str") = some false)
    (ktlist_Standing : PySem.W.mroIn K c_Standing (.type "list") = some false)
    (kttuple_Standing : PySem.W.mroIn K c_Standing (.type "tuple") = some false)
    (ktdict_Standing : PySem.W.mroIn K c_Standing (.type "dict") = some false)
    (k9_Standing : PySem.W.makesIn K c_Standing = true)
    (k0_Standing : PySem.W.keepIn K (.ref c_Standing) = true)
    (ne_Standing : PySem.W.findIn K (.ref c_Standing) "__ne__" = some (some (.builtin "object.__ne__")))
    (na_Standing_house : PySem.W.findIn K (.ref c_Standing) "house" = some none)
    (na_Standing_lift : PySem.W.findIn K (.ref c_Standing) "lift" = some none)
    (na_Standing_groups : PySem.W.findIn K (.ref c_Standing) "groups" = some none)
    (kk1 : PySem.W.specialIn K (.builtin "object.__class__") "__get__" = some (some (.builtin "getset_descriptor.__get__")))
    (kk2 : PySem.W.takesIn K (.builtin "object.__class__") = some true)
    (kd_House_House : PySem.W.mroIn K c_House (.ref c_House) = some true)
    (kd_House_Standing : PySem.W.mroIn K c_House (.ref c_Standing) = some false)
    (kd_Standing_House : PySem.W.mroIn K c_Standing (.ref c_House) = some false)
    (kd_Standing_Standing : PySem.W.mroIn K c_Standing (.ref c_Standing) = some true)
    (x0_BadHouse : K.lookup c_BadHouse = some (PySem.excClassObj nm_BadHouse q_BadHouse c_BadHouse N_BadHouse bs_BadHouse [.ref c_LiftError, .type "ValueError", .type "Exception", .type "BaseException", .type "object"] true sn_BadHouse sub_BadHouse ab_BadHouse col_BadHouse dd_BadHouse m0_BadHouse m1_BadHouse m2_BadHouse m3_BadHouse m5_BadHouse "ValueError.__new__"))
    (x1_BadHouse : PySem.W.findIn K (.ref c_BadHouse) "__setattr__" = some (some (.builtin "object.__setattr__")))
    (x2_BadHouse : PySem.W.subIn K (.ref c_BadHouse) (.type "BaseException") = some true)
    (x3_BadHouse : PySem.W.typeIn K (.ref c_BadHouse) = some (.type "type"))
    (x4_BadHouse : PySem.W.keepIn K (.ref c_BadHouse) = true)
    (x5_BadHouse : PySem.W.typeIn K (.ref a_BadHouse___init__) = some (.type "function"))
    (x6_BadHouse : PySem.W.findIn K (.ref c_BadHouse) "__getattribute__" = some (some (.builtin "BaseException.__getattribute__")))
    (x7_BadHouse : PySem.W.findIn K (.ref c_BadHouse) "__getattr__" = some none)
    (x8_BadHouse : PySem.W.hasDictIn K c_BadHouse = true)
    (no_BadHouse : PySem.W.findIn K (.ref c_BadHouse) "part" = some none)
    (x0_BadStanding : K.lookup c_BadStanding = some (PySem.excClassObj nm_BadStanding q_BadStanding c_BadStanding N_BadStanding bs_BadStanding [.ref c_LiftError, .type "ValueError", .type "Exception", .type "BaseException", .type "object"] true sn_BadStanding sub_BadStanding ab_BadStanding col_BadStanding dd_BadStanding m0_BadStanding m1_BadStanding m2_BadStanding m3_BadStanding m5_BadStanding "ValueError.__new__"))
    (x1_BadStanding : PySem.W.findIn K (.ref c_BadStanding) "__setattr__" = some (some (.builtin "object.__setattr__")))
    (x2_BadStanding : PySem.W.subIn K (.ref c_BadStanding) (.type "BaseException") = some true)
    (x3_BadStanding : PySem.W.typeIn K (.ref c_BadStanding) = some (.type "type"))
    (x4_BadStanding : PySem.W.keepIn K (.ref c_BadStanding) = true)
    (x5_BadStanding : PySem.W.typeIn K (.ref a_BadStanding___init__) = some (.type "function"))
    (x6_BadStanding : PySem.W.findIn K (.ref c_BadStanding) "__getattribute__" = some (some (.builtin "BaseException.__getattribute__")))
    (x7_BadStanding : PySem.W.findIn K (.ref c_BadStanding) "__getattr__" = some none)
    (x8_BadStanding : PySem.W.hasDictIn K c_BadStanding = true)
    (no_BadStanding : PySem.W.findIn K (.ref c_BadStanding) "part" = some none)
    (y2_BadStanding : PySem.W.subIn K (.ref c_BadStanding) (.type "BaseException") = some true)
    (y3_BadStanding : PySem.W.typeIn K (.ref c_BadStanding) = some (.type "type"))
    (y8_BadStanding : PySem.W.hasDictIn K c_BadStanding = true)
    (y_BadHouse_BadStanding : PySem.W.subIn K (.ref c_BadHouse) (.ref c_BadStanding) = some false)
    (y_BadStanding_BadStanding : PySem.W.subIn K (.ref c_BadStanding) (.ref c_BadStanding) = some true)
    (hv_MOST_FLOORS : PySem.W.nsIn K mainGlobals "MOST_FLOORS" = some (some (.int 40 tv_MOST_FLOORS)))
    (hv_MOST_GROUPS : PySem.W.nsIn K mainGlobals "MOST_GROUPS" = some (some (.int 400 tv_MOST_GROUPS)))
    (hz_abs : PySem.W.nsIn K mainGlobals "abs" = some none)
    (hz_bool : PySem.W.nsIn K mainGlobals "bool" = some none)
    (hz_int : PySem.W.nsIn K mainGlobals "int" = some none)
    (hz_isinstance : PySem.W.nsIn K mainGlobals "isinstance" = some none)
    (hz_len : PySem.W.nsIn K mainGlobals "len" = some none)
    (hz_list : PySem.W.nsIn K mainGlobals "list" = some none)
    (hz_range : PySem.W.nsIn K mainGlobals "range" = some none)
    (hz_sorted : PySem.W.nsIn K mainGlobals "sorted" = some none)
    (hz_tuple : PySem.W.nsIn K mainGlobals "tuple" = some none) :
    ∃ fd : FuncData, (∀ (s : Shared) (v : Value), BindsTo s fd ⟨[v], []⟩ [("script", v)]) ∧ ∀ base : Heap, K.In base → base.Ns mainGlobals mg → FnOk P w K mg base CX0 9 fa fd ["script"] (spLaw K) := by
  have e := (PySem.W.mg_of X G hA_law).symm.trans hfa
  cases e
  have T : Txt K mg { c_LiftError := c_LiftError, c_BadHouse := c_BadHouse, c_BadStanding := c_BadStanding, c_House := c_House, c_Standing := c_Standing, a__law_hand := a__law_hand, d__law_hand := (PySem.W.fnOf "_law_hand" "_law_hand" (defArgs s__law_hand) (defBody s__law_hand) (defScope s__law_hand) .none kV__law_hand dc__law_hand pm__law_hand an__law_hand cd__law_hand ct__law_hand), a_BadStanding___init__ := a_BadStanding___init__, d_BadStanding___init__ := (PySem.W.fnOf "__init__" "BadStanding.__init__" (defArgs s_BadStanding___init__) (defBody s_BadStanding___init__) (defScope s_BadStanding___init__) .none kV_BadStanding___init__ dc_BadStanding___init__ pm_BadStanding___init__ an_BadStanding___init__ cd_BadStanding___init__ ct_BadStanding___init__), a_is_integer := a_is_integer, d_is_integer := (PySem.W.fnOf "is_integer" "is_integer" (defArgs s_is_integer) (defBody s_is_integer) (defScope s_is_integer) .none kV_is_integer dc_is_integer pm_is_integer an_is_integer cd_is_integer ct_is_integer), a_is_between := a_is_between, d_is_between := (PySem.W.fnOf "is_between" "is_between" (defArgs s_is_between) (defBody s_is_between) (defScope s_is_between) .none kV_is_between dc_is_between pm_is_between an_is_between cd_is_between ct_is_between), a_is_floor := a_is_floor, d_is_floor := (PySem.W.fnOf "is_floor" "is_floor" (defArgs s_is_floor) (defBody s_is_floor) (defScope s_is_floor) .none kV_is_floor dc_is_floor pm_is_floor an_is_floor cd_is_floor ct_is_floor), a_is_tuple_of := a_is_tuple_of, d_is_tuple_of := (PySem.W.fnOf "is_tuple_of" "is_tuple_of" (defArgs s_is_tuple_of) (defBody s_is_tuple_of) (defScope s_is_tuple_of) .none kV_is_tuple_of dc_is_tuple_of pm_is_tuple_of an_is_tuple_of cd_is_tuple_of ct_is_tuple_of), a_is_from := a_is_from, d_is_from := (PySem.W.fnOf "is_from" "is_from" (defArgs s_is_from) (defBody s_is_from) (defScope s_is_from) .none kV_is_from dc_is_from pm_is_from an_is_from cd_is_from ct_is_from), a_is_group := a_is_group, d_is_group := (PySem.W.fnOf "is_group" "is_group" (defArgs s_is_group) (defBody s_is_group) (defScope s_is_group) .none kV_is_group dc_is_group pm_is_group an_is_group cd_is_group ct_is_group), a_is_bounded_groups := a_is_bounded_groups, d_is_bounded_groups := (PySem.W.fnOf "is_bounded_groups" "is_bounded_groups" (defArgs s_is_bounded_groups) (defBody s_is_bounded_groups) (defScope s_is_bounded_groups) .none kV_is_bounded_groups dc_is_bounded_groups pm_is_bounded_groups an_is_bounded_groups cd_is_bounded_groups ct_is_bounded_groups), a_Standing___init__ := a_Standing___init__, d_Standing___init__ := (PySem.W.fnOf "__init__" "Standing.__init__" (defArgs s_Standing___init__) (defBody s_Standing___init__) (defScope s_Standing___init__) .none kV_Standing___init__ dc_Standing___init__ pm_Standing___init__ an_Standing___init__ cd_Standing___init__ ct_Standing___init__), a__law_told := a__law_told, d__law_told := (PySem.W.fnOf "_law_told" "_law_told" (defArgs s__law_told) (defBody s__law_told) (defScope s__law_told) .none kV__law_told dc__law_told pm__law_told an__law_told cd__law_told ct__law_told), a_House___eq__ := a_House___eq__, d_House___eq__ := (PySem.W.fnOf "__eq__" "House.__eq__" (defArgs s_House___eq__) (defBody s_House___eq__) (defScope s_House___eq__) .none kV_House___eq__ dc_House___eq__ pm_House___eq__ an_House___eq__ cd_House___eq__ ct_House___eq__), a__law_is_int := a__law_is_int, d__law_is_int := (PySem.W.fnOf "_law_is_int" "_law_is_int" (defArgs s__law_is_int) (defBody s__law_is_int) (defScope s__law_is_int) .none kV__law_is_int dc__law_is_int pm__law_is_int an__law_is_int cd__law_is_int ct__law_is_int), a__law_is_group := a__law_is_group, d__law_is_group := (PySem.W.fnOf "_law_is_group" "_law_is_group" (defArgs s__law_is_group) (defBody s__law_is_group) (defScope s__law_is_group) .none kV__law_is_group dc__law_is_group pm__law_is_group an__law_is_group cd__law_is_group ct__law_is_group), a__law_are_groups := a__law_are_groups, d__law_are_groups := (PySem.W.fnOf "_law_are_groups" "_law_are_groups" (defArgs s__law_are_groups) (defBody s__law_are_groups) (defScope s__law_are_groups) .none kV__law_are_groups dc__law_are_groups pm__law_are_groups an__law_are_groups cd__law_are_groups ct__law_are_groups), a__law_right := a__law_right, d__law_right := (PySem.W.fnOf "_law_right" "_law_right" (defArgs s__law_right) (defBody s__law_right) (defScope s__law_right) .none kV__law_right dc__law_right pm__law_right an__law_right cd__law_right ct__law_right), a__law_draw := a__law_draw, d__law_draw := (PySem.W.fnOf "_law_draw" "_law_draw" (defArgs s__law_draw) (defBody s__law_draw) (defScope s__law_draw) .none kV__law_draw dc__law_draw pm__law_draw an__law_draw cd__law_draw ct__law_draw), a__law_groups := a__law_groups, d__law_groups := (PySem.W.fnOf "_law_groups" "_law_groups" (defArgs s__law_groups) (defBody s__law_groups) (defScope s__law_groups) .none kV__law_groups dc__law_groups pm__law_groups an__law_groups cd__law_groups ct__law_groups), a__law_great := a__law_great, d__law_great := (PySem.W.fnOf "_law_great" "_law_great" (defArgs s__law_great) (defBody s__law_great) (defScope s__law_great) .none kV__law_great dc__law_great pm__law_great an__law_great cd__law_great ct__law_great), a__law_great_groups := a__law_great_groups, d__law_great_groups := (PySem.W.fnOf "_law_great_groups" "_law_great_groups" (defArgs s__law_great_groups) (defBody s__law_great_groups) (defScope s__law_great_groups) .none kV__law_great_groups dc__law_great_groups pm__law_great_groups an__law_great_groups cd__law_great_groups ct__law_great_groups), a__law_world := a__law_world, d__law_world := (PySem.W.fnOf "_law_world" "_law_world" (defArgs s__law_world) (defBody s__law_world) (defScope s__law_world) .none kV__law_world dc__law_world pm__law_world an__law_world cd__law_world ct__law_world), a_BadHouse___init__ := a_BadHouse___init__, d_BadHouse___init__ := (PySem.W.fnOf "__init__" "BadHouse.__init__" (defArgs s_BadHouse___init__) (defBody s_BadHouse___init__) (defScope s_BadHouse___init__) .none kV_BadHouse___init__ dc_BadHouse___init__ pm_BadHouse___init__ an_BadHouse___init__ cd_BadHouse___init__ ct_BadHouse___init__), a_House___init__ := a_House___init__, d_House___init__ := (PySem.W.fnOf "__init__" "House.__init__" (defArgs s_House___init__) (defBody s_House___init__) (defScope s_House___init__) .none kV_House___init__ dc_House___init__ pm_House___init__ an_House___init__ cd_House___init__ ct_House___init__), a_Standing___eq__ := a_Standing___eq__, d_Standing___eq__ := (PySem.W.fnOf "__eq__" "Standing.__eq__" (defArgs s_Standing___eq__) (defBody s_Standing___eq__) (defScope s_Standing___eq__) .none kV_Standing___eq__ dc_Standing___eq__ pm_Standing___eq__ an_Standing___eq__ cd_Standing___eq__ ct_Standing___eq__), a__law_some := a__law_some, d__law_some := (PySem.W.fnOf "_law_some" "_law_some" (defArgs s__law_some) (defBody s__law_some) (defScope s__law_some) .none kV__law_some dc__law_some pm__law_some an__law_some cd__law_some ct__law_some), a__law_deep := a__law_deep, d__law_deep := (PySem.W.fnOf "_law_deep" "_law_deep" (defArgs s__law_deep) (defBody s__law_deep) (defScope s__law_deep) .none kV__law_deep dc__law_deep pm__law_deep an__law_deep cd__law_deep ct__law_deep), a__law_odd := a__law_odd, d__law_odd := (PySem.W.fnOf "_law_odd" "_law_odd" (defArgs s__law_odd) (defBody s__law_odd) (defScope s__law_odd) .none kV__law_odd dc__law_odd pm__law_odd an__law_odd cd__law_odd ct__law_odd), a__law_bent := a__law_bent, d__law_bent := (PySem.W.fnOf "_law_bent" "_law_bent" (defArgs s__law_bent) (defBody s__law_bent) (defScope s__law_bent) .none kV__law_bent dc__law_bent pm__law_bent an__law_bent cd__law_bent ct__law_bent), a_law := fa, d_law := (PySem.W.fnOf "law" "law" (defArgs s_law) (defBody s_law) (defScope s_law) .none kV_law dc_law pm_law an_law cd_law ct_law) } := {
    g_LiftError := PySem.W.mg_of X G gC_LiftError,
    g_BadHouse := PySem.W.mg_of X G gC_BadHouse,
    g_BadStanding := PySem.W.mg_of X G gC_BadStanding,
    g_House := PySem.W.mg_of X G gC_House,
    g_Standing := PySem.W.mg_of X G gC_Standing,
    F__law_hand := fun_mk (st := s__law_hand) hL__law_hand hC__law_hand hK__law_hand,
    g__law_hand := PySem.W.mg_of X G hA__law_hand,
    b__law_hand := (fun_mk (st := s__law_hand) hL__law_hand hC__law_hand hK__law_hand).binds (ps := ["script"]) fun _ _ _ _ _ _ us hl => match us, hl with | [_], _ => rfl,
    F_BadStanding___init__ := fun_mk (st := s_BadStanding___init__) hL_BadStanding___init__ hC_BadStanding___init__ hK_BadStanding___init__,
    b_BadStanding___init__ := (fun_mk (st := s_BadStanding___init__) hL_BadStanding___init__ hC_BadStanding___init__ hK_BadStanding___init__).binds (ps := ["self", "part"]) fun _ _ _ _ _ _ us hl => match us, hl with | [_, _], _ => rfl,
    F_is_integer := fun_mk (st := s_is_integer) hL_is_integer hC_is_integer hK_is_integer,
    g_is_integer := PySem.W.mg_of X G hA_is_integer,
    b_is_integer := (fun_mk (st := s_is_integer) hL_is_integer hC_is_integer hK_is_integer).binds (ps := ["thing"]) fun _ _ _ _ _ _ us hl => match us, hl with | [_], _ => rfl,
    F_is_between := fun_mk (st := s_is_between) hL_is_between hC_is_between hK_is_between,
    g_is_between := PySem.W.mg_of X G hA_is_between,
    b_is_between := (fun_mk (st := s_is_between) hL_is_between hC_is_between hK_is_between).binds (ps := ["low", "high", "thing"]) fun _ _ _ _ _ _ us hl => match us, hl with | [_, _, _], _ => rfl,
    F_is_floor := fun_mk (st := s_is_floor) hL_is_floor hC_is_floor hK_is_floor,
    g_is_floor := PySem.W.mg_of X G hA_is_floor,
    b_is_floor := (fun_mk (st := s_is_floor) hL_is_floor hC_is_floor hK_is_floor).binds (ps := ["house", "thing"]) fun _ _ _ _ _ _ us hl => match us, hl with | [_, _], _ => rfl,
    F_is_tuple_of := fun_mk (st := s_is_tuple_of) hL_is_tuple_of hC_is_tuple_of hK_is_tuple_of,
    g_is_tuple_of := PySem.W.mg_of X G hA_is_tuple_of,
    b_is_tuple_of := (fun_mk (st := s_is_tuple_of) hL_is_tuple_of hC_is_tuple_of hK_is_tuple_of).binds (ps := ["many", "thing"]) fun _ _ _ _ _ _ us hl => match us, hl with | [_, _], _ => rfl,
    F_is_from := fun_mk (st := s_is_from) hL_is_from hC_is_from hK_is_from,
    g_is_from := PySem.W.mg_of X G hA_is_from,
    b_is_from := (fun_mk (st := s_is_from) hL_is_from hC_is_from hK_is_from).binds (ps := ["low", "thing"]) fun _ _ _ _ _ _ us hl => match us, hl with | [_, _], _ => rfl,
    F_is_group := fun_mk (st := s_is_group) hL_is_group hC_is_group hK_is_group,
    g_is_group := PySem.W.mg_of X G hA_is_group,
    b_is_group := (fun_mk (st := s_is_group) hL_is_group hC_is_group hK_is_group).binds (ps := ["floors", "thing"]) fun _ _ _ _ _ _ us hl => match us, hl with | [_, _], _ => rfl,
    F_is_bounded_groups := fun_mk (st := s_is_bounded_groups) hL_is_bounded_groups hC_is_bounded_groups hK_is_bounded_groups,
    g_is_bounded_groups := PySem.W.mg_of X G hA_is_bounded_groups,
    b_is_bounded_groups := (fun_mk (st := s_is_bounded_groups) hL_is_bounded_groups hC_is_bounded_groups hK_is_bounded_groups).binds (ps := ["floors", "thing"]) fun _ _ _ _ _ _ us hl => match us, hl with | [_, _], _ => rfl,
    F_Standing___init__ := fun_mk (st := s_Standing___init__) hL_Standing___init__ hC_Standing___init__ hK_Standing___init__,
    b_Standing___init__ := (fun_mk (st := s_Standing___init__) hL_Standing___init__ hC_Standing___init__ hK_Standing___init__).binds (ps := ["self", "house", "lift", "groups"]) fun _ _ _ _ _ _ us hl => match us, hl with | [_, _, _, _], _ => rfl,
    F__law_told := fun_mk (st := s__law_told) hL__law_told hC__law_told hK__law_told,
    g__law_told := PySem.W.mg_of X G hA__law_told,
    b__law_told := (fun_mk (st := s__law_told) hL__law_told hC__law_told hK__law_told).binds (ps := ["house", "lift", "groups"]) fun _ _ _ _ _ _ us hl => match us, hl with | [_, _, _], _ => rfl,
    F_House___eq__ := fun_mk (st := s_House___eq__) hL_House___eq__ hC_House___eq__ hK_House___eq__,
    b_House___eq__ := (fun_mk (st := s_House___eq__) hL_House___eq__ hC_House___eq__ hK_House___eq__).binds (ps := ["self", "other"]) fun _ _ _ _ _ _ us hl => match us, hl with | [_, _], _ => rfl,
    F_House___eq__i := hI_House___eq__,
    F__law_is_int := fun_mk (st := s__law_is_int) hL__law_is_int hC__law_is_int hK__law_is_int,
    g__law_is_int := PySem.W.mg_of X G hA__law_is_int,
    b__law_is_int := (fun_mk (st := s__law_is_int) hL__law_is_int hC__law_is_int hK__law_is_int).binds (ps := ["thing", "least", "most"]) fun _ _ _ _ _ _ us hl => match us, hl with | [_, _, _], _ => rfl,
    F__law_is_group := fun_mk (st := s__law_is_group) hL__law_is_group hC__law_is_group hK__law_is_group,
    g__law_is_group := PySem.W.mg_of X G hA__law_is_group,
    b__law_is_group := (fun_mk (st := s__law_is_group) hL__law_is_group hC__law_is_group hK__law_is_group).binds (ps := ["thing", "floors"]) fun _ _ _ _ _ _ us hl => match us, hl with | [_, _], _ => rfl,
    F__law_are_groups := fun_mk (st := s__law_are_groups) hL__law_are_groups hC__law_are_groups hK__law_are_groups,
    g__law_are_groups := PySem.W.mg_of X G hA__law_are_groups,
    b__law_are_groups := (fun_mk (st := s__law_are_groups) hL__law_are_groups hC__law_are_groups hK__law_are_groups).binds (ps := ["thing", "floors"]) fun _ _ _ _ _ _ us hl => match us, hl with | [_, _], _ => rfl,
    F__law_right := fun_mk (st := s__law_right) hL__law_right hC__law_right hK__law_right,
    g__law_right := PySem.W.mg_of X G hA__law_right,
    b__law_right := (fun_mk (st := s__law_right) hL__law_right hC__law_right hK__law_right).binds (ps := ["house", "is_house", "lift", "groups", "floors"]) fun _ _ _ _ _ _ us hl => match us, hl with | [_, _, _, _, _], _ => rfl,
    F__law_draw := fun_mk (st := s__law_draw) hL__law_draw hC__law_draw hK__law_draw,
    g__law_draw := PySem.W.mg_of X G hA__law_draw,
    b__law_draw := (fun_mk (st := s__law_draw) hL__law_draw hC__law_draw hK__law_draw).binds (ps := ["hand", "many"]) fun _ _ _ _ _ _ us hl => match us, hl with | [_, _], _ => rfl,
    F__law_groups := fun_mk (st := s__law_groups) hL__law_groups hC__law_groups hK__law_groups,
    g__law_groups := PySem.W.mg_of X G hA__law_groups,
    b__law_groups := (fun_mk (st := s__law_groups) hL__law_groups hC__law_groups hK__law_groups).binds (ps := ["hand", "floors", "many", "most"]) fun _ _ _ _ _ _ us hl => match us, hl with | [_, _, _, _], _ => rfl,
    F__law_great := fun_mk (st := s__law_great) hL__law_great hC__law_great hK__law_great,
    g__law_great := PySem.W.mg_of X G hA__law_great,
    b__law_great := (fun_mk (st := s__law_great) hL__law_great hC__law_great hK__law_great).binds (ps := ["hand", "most"]) fun _ _ _ _ _ _ us hl => match us, hl with | [_, _], _ => rfl,
    F__law_great_groups := fun_mk (st := s__law_great_groups) hL__law_great_groups hC__law_great_groups hK__law_great_groups,
    g__law_great_groups := PySem.W.mg_of X G hA__law_great_groups,
    b__law_great_groups := (fun_mk (st := s__law_great_groups) hL__law_great_groups hC__law_great_groups hK__law_great_groups).binds (ps := ["hand", "floors"]) fun _ _ _ _ _ _ us hl => match us, hl with | [_, _], _ => rfl,
    F__law_world := fun_mk (st := s__law_world) hL__law_world hC__law_world hK__law_world,
    g__law_world := PySem.W.mg_of X G hA__law_world,
    b__law_world := (fun_mk (st := s__law_world) hL__law_world hC__law_world hK__law_world).binds (ps := ["hand"]) fun _ _ _ _ _ _ us hl => match us, hl with | [_], _ => rfl,
    F_BadHouse___init__ := fun_mk (st := s_BadHouse___init__) hL_BadHouse___init__ hC_BadHouse___init__ hK_BadHouse___init__,
    b_BadHouse___init__ := (fun_mk (st := s_BadHouse___init__) hL_BadHouse___init__ hC_BadHouse___init__ hK_BadHouse___init__).binds (ps := ["self", "part"]) fun _ _ _ _ _ _ us hl => match us, hl with | [_, _], _ => rfl,
    F_House___init__ := fun_mk (st := s_House___init__) hL_House___init__ hC_House___init__ hK_House___init__,
    b_House___init__ := (fun_mk (st := s_House___init__) hL_House___init__ hC_House___init__ hK_House___init__).binds (ps := ["self", "floors", "room"]) fun _ _ _ _ _ _ us hl => match us, hl with | [_, _, _], _ => rfl,
    F_Standing___eq__ := fun_mk (st := s_Standing___eq__) hL_Standing___eq__ hC_Standing___eq__ hK_Standing___eq__,
    b_Standing___eq__ := (fun_mk (st := s_Standing___eq__) hL_Standing___eq__ hC_Standing___eq__ hK_Standing___eq__).binds (ps := ["self", "other"]) fun _ _ _ _ _ _ us hl => match us, hl with | [_, _], _ => rfl,
    F_Standing___eq__i := hI_Standing___eq__,
    F__law_some := fun_mk (st := s__law_some) hL__law_some hC__law_some hK__law_some,
    g__law_some := PySem.W.mg_of X G hA__law_some,
    b__law_some := (fun_mk (st := s__law_some) hL__law_some hC__law_some hK__law_some).binds (ps := ["hand", "things"]) fun _ _ _ _ _ _ us hl => match us, hl with | [_, _], _ => rfl,
    F__law_deep := fun_mk (st := s__law_deep) hL__law_deep hC__law_deep hK__law_deep,
    g__law_deep := PySem.W.mg_of X G hA__law_deep,
    b__law_deep := (fun_mk (st := s__law_deep) hL__law_deep hC__law_deep hK__law_deep).binds (ps := ["kind"]) fun _ _ _ _ _ _ us hl => match us, hl with | [_], _ => rfl,
    F__law_odd := fun_mk (st := s__law_odd) hL__law_odd hC__law_odd hK__law_odd,
    g__law_odd := PySem.W.mg_of X G hA__law_odd,
    b__law_odd := (fun_mk (st := s__law_odd) hL__law_odd hC__law_odd hK__law_odd).binds (ps := ["hand", "floors", "house"]) fun _ _ _ _ _ _ us hl => match us, hl with | [_, _, _], _ => rfl,
    F__law_bent := fun_mk (st := s__law_bent) hL__law_bent hC__law_bent hK__law_bent,
    g__law_bent := PySem.W.mg_of X G hA__law_bent,
    b__law_bent := (fun_mk (st := s__law_bent) hL__law_bent hC__law_bent hK__law_bent).binds (ps := ["hand", "groups", "floors", "house"]) fun _ _ _ _ _ _ us hl => match us, hl with | [_, _, _, _], _ => rfl,
    F_law := fun_mk (st := s_law) hL_law hC_law hK_law,
    g_law := PySem.W.mg_of X G hA_law,
    b_law := (fun_mk (st := s_law) hL_law hC_law hK_law).binds (ps := ["script"]) fun _ _ _ _ _ _ us hl => match us, hl with | [_], _ => rfl,
    mk_House := ⟨k9_House, hA_House___init__, hI_House___init__, k0_House⟩,
    eq_House := hA_House___eq__,
    ne_House := ne_House,
    ob_House := k6_House,
    na_House_floors := na_House_floors,
    na_House_room := na_House_room,
    mk_Standing := ⟨k9_Standing, hA_Standing___init__, hI_Standing___init__, k0_Standing⟩,
    eq_Standing := hA_Standing___eq__,
    ne_Standing := ne_Standing,
    ob_Standing := k6_Standing,
    na_Standing_house := na_Standing_house,
    na_Standing_lift := na_Standing_lift,
    na_Standing_groups := na_Standing_groups,
    dn_House_Standing := kd_ne kd_House_Standing kd_House_House,
    kits := ⟨fun c => match c with | 0 => ⟨⟨k1_House, k2_House, k3_House, k4_House⟩, k5_House, kk1, kk2, k6_House, k7_House, k8_House, ktint_House, ktbool_House, ktstr_House, ktlist_House, kttuple_House, ktdict_House⟩ | _ + 1 => ⟨⟨k1_Standing, k2_Standing, k3_Standing, k4_Standing⟩, k5_Standing, kk1, kk2, k6_Standing, k7_Standing, k8_Standing, ktint_Standing, ktbool_Standing, ktstr_Standing, ktlist_Standing, kttuple_Standing, ktdict_Standing⟩, fun c d => match c, d with
      | 0, 0 => kd_same kd_House_House
      | 0, _ + 1 => kd_other kd_House_Standing kd_House_House
      | _ + 1, 0 => kd_other kd_Standing_House kd_Standing_Standing
      | _ + 1, _ + 1 => kd_same kd_Standing_Standing⟩,
    oe_BadHouse := ⟨⟨_, _, _, _, _, _, _, _, _, _, _, _, _, _, _, x0_BadHouse, rfl⟩, x1_BadHouse, x2_BadHouse, x3_BadHouse, x4_BadHouse⟩,
    i_BadHouse := hA_BadHouse___init__,
    t_BadHouse := x5_BadHouse,
    xf_BadHouse := ⟨x6_BadHouse, x7_BadHouse, x2_BadHouse, x8_BadHouse⟩,
    no_BadHouse := no_BadHouse,
    oe_BadStanding := ⟨⟨_, _, _, _, _, _, _, _, _, _, _, _, _, _, _, x0_BadStanding, rfl⟩, x1_BadStanding, x2_BadStanding, x3_BadStanding, x4_BadStanding⟩,
    i_BadStanding := hA_BadStanding___init__,
    t_BadStanding := x5_BadStanding,
    xf_BadStanding := ⟨x6_BadStanding, x7_BadStanding, x2_BadStanding, x8_BadStanding⟩,
    no_BadStanding := no_BadStanding,
    em_BadHouse_BadStanding := PySem.W.exm_ref y2_BadStanding y8_BadStanding y3_BadStanding y_BadHouse_BadStanding,
    em_BadStanding_BadStanding := PySem.W.exm_ref y2_BadStanding y8_BadStanding y3_BadStanding y_BadStanding_BadStanding,
    c_MOST_FLOORS := ⟨_, PySem.W.mg_of X G hv_MOST_FLOORS⟩,
    c_MOST_GROUPS := ⟨_, PySem.W.mg_of X G hv_MOST_GROUPS⟩,
    c_MOST_PEOPLE := hl_MOST_PEOPLE,
    c_MOST_ROOM := hl_MOST_ROOM,
    n_abs := PySem.W.mg_none_of X G hz_abs,
    n_bool := PySem.W.mg_none_of X G hz_bool,
    n_int := PySem.W.mg_none_of X G hz_int,
    n_isinstance := PySem.W.mg_none_of X G hz_isinstance,
    n_len := PySem.W.mg_none_of X G hz_len,
    n_list := PySem.W.mg_none_of X G hz_list,
    n_range := PySem.W.mg_none_of X G hz_range,
    n_sorted := PySem.W.mg_none_of X G hz_sorted,
    n_tuple := PySem.W.mg_none_of X G hz_tuple }
  exact ⟨_, fun s v => .of_eq rfl, fun base _ _ => G_law T⟩
end Zo
open PySem PySem.W PyProof.Rows in
set_option maxRecDepth 100000 in
set_option maxHeartbeats 0 in
theorem PySem.Challenge.cw_willinglift_k02_standings_judged_holds : PySem.Challenge.rw_willinglift_k02_standings_judged.Holds := by
  w_on; o_law; k_head; (case hw => w_witness2)
  k_fill
  refine Zo.walk_ofX (l := PySem.Challenge.rw_willinglift_k02_standings_judged) (n := 63) (k := 9) (x := "script") (CX := fun _ => L2.CX0) (sp := Zo.spLaw) rfl (by decide) rfl ⟨rfl, by decide, by decide⟩ (fun w h Y => PySem.W.kIn_of Y) ?F (fun K H a ns hl hO hS => ⟨a, ns, rfl, hS, hl, fun _ => rfl⟩) (fun _ _ _ _ _ z => z)
  case F =>
    intro w mg fa h XP KX G hmg
    have hl_MOST_PEOPLE := Zo.loose_int (x := "MOST_PEOPLE") (i := 1000000000000000000000000000000) XP (by simp)
    have hl_MOST_ROOM := Zo.loose_int (x := "MOST_ROOM") (i := 1000000000000) XP (by simp)
    refine' Zo.all_mk KX G hmg hl_MOST_PEOPLE hl_MOST_ROOM ?gC_LiftError ?gC_BadHouse ?gC_BadStanding ?gC_House ?gC_Standing ?hA__law_hand ?hL__law_hand ?hC__law_hand ?hK__law_hand ?hA_BadStanding___init__ ?hL_BadStanding___init__ ?hC_BadStanding___init__ ?hK_BadStanding___init__ ?hA_is_integer ?hL_is_integer ?hC_is_integer ?hK_is_integer ?hA_is_between ?hL_is_between ?hC_is_between ?hK_is_between ?hA_is_floor ?hL_is_floor ?hC_is_floor ?hK_is_floor ?hA_is_tuple_of ?hL_is_tuple_of ?hC_is_tuple_of ?hK_is_tuple_of ?hA_is_from ?hL_is_from ?hC_is_from ?hK_is_from ?hA_is_group ?hL_is_group ?hC_is_group ?hK_is_group ?hA_is_bounded_groups ?hL_is_bounded_groups ?hC_is_bounded_groups ?hK_is_bounded_groups ?hA_Standing___init__ ?hL_Standing___init__ ?hC_Standing___init__ ?hK_Standing___init__ ?hI_Standing___init__ ?hA__law_told ?hL__law_told ?hC__law_told ?hK__law_told ?hA_House___eq__ ?hL_House___eq__ ?hC_House___eq__ ?hK_House___eq__ ?hI_House___eq__ ?hA__law_is_int ?hL__law_is_int ?hC__law_is_int ?hK__law_is_int ?hA__law_is_group ?hL__law_is_group ?hC__law_is_group ?hK__law_is_group ?hA__law_are_groups ?hL__law_are_groups ?hC__law_are_groups ?hK__law_are_groups ?hA__law_right ?hL__law_right ?hC__law_right ?hK__law_right ?hA__law_draw ?hL__law_draw ?hC__law_draw ?hK__law_draw ?hA__law_groups ?hL__law_groups ?hC__law_groups ?hK__law_groups ?hA__law_great ?hL__law_great ?hC__law_great ?hK__law_great ?hA__law_great_groups ?hL__law_great_groups ?hC__law_great_groups ?hK__law_great_groups ?hA__law_world ?hL__law_world ?hC__law_world ?hK__law_world ?hA_BadHouse___init__ ?hL_BadHouse___init__ ?hC_BadHouse___init__ ?hK_BadHouse___init__ ?hA_House___init__ ?hL_House___init__ ?hC_House___init__ ?hK_House___init__ ?hI_House___init__ ?hA_Standing___eq__ ?hL_Standing___eq__ ?hC_Standing___eq__ ?hK_Standing___eq__ ?hI_Standing___eq__ ?hA__law_some ?hL__law_some ?hC__law_some ?hK__law_some ?hA__law_deep ?hL__law_deep ?hC__law_deep ?hK__law_deep ?hA__law_odd ?hL__law_odd ?hC__law_odd ?hK__law_odd ?hA__law_bent ?hL__law_bent ?hC__law_bent ?hK__law_bent ?hA_law ?hL_law ?hC_law ?hK_law ?k1_House ?k2_House ?k3_House ?k4_House ?k5_House ?k6_House ?k7_House ?k8_House ?ktint_House ?ktbool_House ?ktstr_House ?ktlist_House ?kttuple_House ?ktdict_House ?k9_House ?k0_House ?ne_House ?na_House_floors ?na_House_room ?k1_Standing ?k2_Standing ?k3_Standing ?k4_Standing ?k5_Standing ?k6_Standing ?k7_Standing ?k8_Standing ?ktint_Standing ?ktbool_Standing ?ktstr_Standing ?ktlist_Standing ?kttuple_Standing ?ktdict_Standing ?k9_Standing ?k0_Standing ?ne_Standing ?na_Standing_house ?na_Standing_lift ?na_Standing_groups ?kk1 ?kk2 ?kd_House_House ?kd_House_Standing ?kd_Standing_House ?kd_Standing_Standing ?x0_BadHouse ?x1_BadHouse ?x2_BadHouse ?x3_BadHouse ?x4_BadHouse ?x5_BadHouse ?x6_BadHouse ?x7_BadHouse ?x8_BadHouse ?no_BadHouse ?x0_BadStanding ?x1_BadStanding ?x2_BadStanding ?x3_BadStanding ?x4_BadStanding ?x5_BadStanding ?x6_BadStanding ?x7_BadStanding ?x8_BadStanding ?no_BadStanding ?y2_BadStanding ?y3_BadStanding ?y8_BadStanding ?y_BadHouse_BadStanding ?y_BadStanding_BadStanding ?hv_MOST_FLOORS ?hv_MOST_GROUPS ?hz_abs ?hz_bool ?hz_int ?hz_isinstance ?hz_len ?hz_list ?hz_range ?hz_sorted ?hz_tuple
    (case gC_LiftError => k_is)
    (case gC_BadHouse => k_is)
    (case gC_BadStanding => k_is)
    (case gC_House => k_is)
    (case gC_Standing => k_is)
    (case hA__law_hand => k_is)
    (case hL__law_hand => k_is)
    (case hC__law_hand => k_is)
    (case hK__law_hand => k_is)
    (case hA_BadStanding___init__ => k_is)
    (case hL_BadStanding___init__ => k_is)
    (case hC_BadStanding___init__ => k_is)
    (case hK_BadStanding___init__ => k_is)
    (case hA_is_integer => k_is)
    (case hL_is_integer => k_is)
    (case hC_is_integer => k_is)
    (case hK_is_integer => k_is)
    (case hA_is_between => k_is)
    (case hL_is_between => k_is)
    (case hC_is_between => k_is)
    (case hK_is_between => k_is)
    (case hA_is_floor => k_is)
    (case hL_is_floor => k_is)
    (case hC_is_floor => k_is)
    (case hK_is_floor => k_is)
    (case hA_is_tuple_of => k_is)
    (case hL_is_tuple_of => k_is)
    (case hC_is_tuple_of => k_is)
    (case hK_is_tuple_of => k_is)
    (case hA_is_from => k_is)
    (case hL_is_from => k_is)
    (case hC_is_from => k_is)
    (case hK_is_from => k_is)
    (case hA_is_group => k_is)
    (case hL_is_group => k_is)
    (case hC_is_group => k_is)
    (case hK_is_group => k_is)
    (case hA_is_bounded_groups => k_is)
    (case hL_is_bounded_groups => k_is)
    (case hC_is_bounded_groups => k_is)
    (case hK_is_bounded_groups => k_is)
    (case hA_Standing___init__ => k_is)
    (case hL_Standing___init__ => k_is)
    (case hC_Standing___init__ => k_is)
    (case hK_Standing___init__ => k_is)
    (case hI_Standing___init__ => k_is)
    (case hA__law_told => k_is)
    (case hL__law_told => k_is)
    (case hC__law_told => k_is)
    (case hK__law_told => k_is)
    (case hA_House___eq__ => k_is)
    (case hL_House___eq__ => k_is)
    (case hC_House___eq__ => k_is)
    (case hK_House___eq__ => k_is)
    (case hI_House___eq__ => k_is)
    (case hA__law_is_int => k_is)
    (case hL__law_is_int => k_is)
    (case hC__law_is_int => k_is)
    (case hK__law_is_int => k_is)
    (case hA__law_is_group => k_is)
    (case hL__law_is_group => k_is)
    (case hC__law_is_group => k_is)
    (case hK__law_is_group => k_is)
    (case hA__law_are_groups => k_is)
    (case hL__law_are_groups => k_is)
    (case hC__law_are_groups => k_is)
    (case hK__law_are_groups => k_is)
    (case hA__law_right => k_is)
    (case hL__law_right => k_is)
    (case hC__law_right => k_is)
    (case hK__law_right => k_is)
    (case hA__law_draw => k_is)
    (case hL__law_draw => k_is)
    (case hC__law_draw => k_is)
    (case hK__law_draw => k_is)
    (case hA__law_groups => k_is)
    (case hL__law_groups => k_is)
    (case hC__law_groups => k_is)
    (case hK__law_groups => k_is)
    (case hA__law_great => k_is)
    (case hL__law_great => k_is)
    (case hC__law_great => k_is)
    (case hK__law_great => k_is)
    (case hA__law_great_groups => k_is)
    (case hL__law_great_groups => k_is)
    (case hC__law_great_groups => k_is)
    (case hK__law_great_groups => k_is)
    (case hA__law_world => k_is)
    (case hL__law_world => k_is)
    (case hC__law_world => k_is)
    (case hK__law_world => k_is)
    (case hA_BadHouse___init__ => k_is)
    (case hL_BadHouse___init__ => k_is)
    (case hC_BadHouse___init__ => k_is)
    (case hK_BadHouse___init__ => k_is)
    (case hA_House___init__ => k_is)
    (case hL_House___init__ => k_is)
    (case hC_House___init__ => k_is)
    (case hK_House___init__ => k_is)
    (case hI_House___init__ => k_is)
    (case hA_Standing___eq__ => k_is)
    (case hL_Standing___eq__ => k_is)
    (case hC_Standing___eq__ => k_is)
    (case hK_Standing___eq__ => k_is)
    (case hI_Standing___eq__ => k_is)
    (case hA__law_some => k_is)
    (case hL__law_some => k_is)
    (case hC__law_some => k_is)
    (case hK__law_some => k_is)
    (case hA__law_deep => k_is)
    (case hL__law_deep => k_is)
    (case hC__law_deep => k_is)
    (case hK__law_deep => k_is)
    (case hA__law_odd => k_is)
    (case hL__law_odd => k_is)
    (case hC__law_odd => k_is)
    (case hK__law_odd => k_is)
    (case hA__law_bent => k_is)
    (case hL__law_bent => k_is)
    (case hC__law_bent => k_is)
    (case hK__law_bent => k_is)
    (case hA_law => k_is)
    (case hL_law => k_is)
    (case hC_law => k_is)
    (case hK_law => k_is)
    (case k1_House => k_is)
    (case k2_House => k_is)
    (case k3_House => k_is)
    (case k4_House => k_is)
    (case k5_House => k_is)
    (case k6_House => k_is)
    (case k7_House => k_is)
    (case k8_House => k_is)
    (case ktint_House => k_is)
    (case ktbool_House => k_is)
    (case ktstr_House => k_is)
    (case ktlist_House => k_is)
    (case kttuple_House => k_is)
    (case ktdict_House => k_is)
    (case k9_House => k_is)
    (case k0_House => k_is)
    (case ne_House => k_is)
    (case na_House_floors => k_is)
    (case na_House_room => k_is)
    (case k1_Standing => k_is)
    (case k2_Standing => k_is)
    (case k3_Standing => k_is)
    (case k4_Standing => k_is)
    (case k5_Standing => k_is)
    (case k6_Standing => k_is)
    (case k7_Standing => k_is)
    (case k8_Standing => k_is)
    (case ktint_Standing => k_is)
    (case ktbool_Standing => k_is)
    (case ktstr_Standing => k_is)
    (case ktlist_Standing => k_is)
    (case kttuple_Standing => k_is)
    (case ktdict_Standing => k_is)
    (case k9_Standing => k_is)
    (case k0_Standing => k_is)
    (case ne_Standing => k_is)
    (case na_Standing_house => k_is)
    (case na_Standing_lift => k_is)
    (case na_Standing_groups => k_is)
    (case kk1 => k_is)
    (case kk2 => k_is)
    (case kd_House_House => k_is)
    (case kd_House_Standing => k_is)
    (case kd_Standing_House => k_is)
    (case kd_Standing_Standing => k_is)
    (case x0_BadHouse => k_is)
    (case x1_BadHouse => k_is)
    (case x2_BadHouse => k_is)
    (case x3_BadHouse => k_is)
    (case x4_BadHouse => k_is)
    (case x5_BadHouse => k_is)
    (case x6_BadHouse => k_is)
    (case x7_BadHouse => k_is)
    (case x8_BadHouse => k_is)
    (case no_BadHouse => k_is)
    (case x0_BadStanding => k_is)
    (case x1_BadStanding => k_is)
    (case x2_BadStanding => k_is)
    (case x3_BadStanding => k_is)
    (case x4_BadStanding => k_is)
    (case x5_BadStanding => k_is)
    (case x6_BadStanding => k_is)
    (case x7_BadStanding => k_is)
    (case x8_BadStanding => k_is)
    (case no_BadStanding => k_is)
    (case y2_BadStanding => k_is)
    (case y3_BadStanding => k_is)
    (case y8_BadStanding => k_is)
    (case y_BadHouse_BadStanding => k_is)
    (case y_BadStanding_BadStanding => k_is)
    (case hv_MOST_FLOORS => k_is)
    (case hv_MOST_GROUPS => k_is)
    (case hz_abs => k_is)
    (case hz_bool => k_is)
    (case hz_int => k_is)
    (case hz_isinstance => k_is)
    (case hz_len => k_is)
    (case hz_list => k_is)
    (case hz_range => k_is)
    (case hz_sorted => k_is)
    (case hz_tuple => k_is)
